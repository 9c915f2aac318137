/- Layer 6, vm: VmEach: plain facts; the box of the cells. -/
import Derived.Test.YtfohdoahddommaaDoorVmQ
import Derived.Test.YtfohdoahddommaaDoorCodS
namespace Go.Proofs.YtfohdoahddommaaDoor
open Go.RowKit Go.Lib
set_option linter.unusedVariables false
set_option maxRecDepth 100000

/-- One by one: what k runs have come to. -/
structure EachTo (l ins : List (Int × Int)) (c0 c1 : Int × Int) (k : Nat) (ro : List (Int × Int)) (rn : Nat) (r0 r1 : Int × Int) : Prop where
  out : (eachS l (ins.take k) ⟨[], [], c0, c1, 0⟩).out = ro
  n : (eachS l (ins.take k) ⟨[], [], c0, c1, 0⟩).n = rn
  e0 : (eachS l (ins.take k) ⟨[], [], c0, c1, 0⟩).c0 = r0
  e1 : (eachS l (ins.take k) ⟨[], [], c0, c1, 0⟩).c1 = r1

theorem EachTo.start (l ins : List (Int × Int)) (c0 c1 : Int × Int) : EachTo l ins c0 c1 0 [] 0 c0 c1 := ⟨rfl, rfl, rfl, rfl⟩

theorem EachTo.step {l ins : List (Int × Int)} {c0 c1 : Int × Int} {k : Nat} {G : VmS} {ro : List (Int × Int)} {rn : Nat} {r0 r1 : Int × Int} (h : EachTo l ins c0 c1 k ro rn r0 r1) (hk : k < ins.length) (hG : eachS l [ins.getD k (0, 0)] ⟨[], [], r0, r1, 0⟩ = G) :
    EachTo l ins c0 c1 (k + 1) (ro ++ G.out) (rn + G.n) G.c0 G.c1 := by
  have e : eachS l (ins.take (k + 1)) ⟨[], [], c0, c1, 0⟩ = addS ro rn G := by
    rw [eachS_snoc l ins _ k hk, run_add, h.e0, h.e1, h.out, h.n]
    have : runS l (ins.getD k (0, 0)) ⟨[], [], r0, r1, 0⟩ = G := hG
    rw [this]
  exact ⟨by rw [e]; rfl, by rw [e]; rfl, by rw [e]; rfl, by rw [e]; rfl⟩

/-- What Each answered, told apart from where it lies. -/
inductive EachKn (l : List (Int × Int)) (c0 c1 : Int × Int) (ins : List (Int × Int)) : List (Int × Int) → Int → Int → Int → Int → Int → Int → Prop
  | code (h : (chk l).isSome = false) : EachKn l c0 c1 ins [] 0 0 0 0 0 9
  | arg (h : (chk l).isSome = true) (h2 : (rgtB c0 && rgtB c1 && ins.all rgtB) = false) : EachKn l c0 c1 ins [] 0 0 0 0 0 1
  | ok (h : (chk l).isSome = true) (h2 : (rgtB c0 && rgtB c1 && ins.all rgtB) = true) (F : VmS) (hF : eachS l ins ⟨[], [], c0, c1, 0⟩ = F) : EachKn l c0 c1 ins F.out F.c0.1 F.c0.2 F.c1.1 F.c1.2 F.n 0

theorem EachIs.kn {l : List (Int × Int)} {c0 c1 : Int × Int} {ins : List (Int × Int)} {B : Nat} {w : World} {v : Value} (h : EachIs l c0 c1 ins B w v) :
    ∃ A cp Oa a0 a1 a2 a3 n ee, v = .tuple #[resV (.slice A Oa.length cp) a0 a1 a2 a3 n, .int .i64 ee] ∧ w.ownsRow B 24 2 (.slice A Oa.length cp) Oa.length (insCells Oa) ∧ EachKn l c0 c1 ins Oa a0 a1 a2 a3 n ee := by
  cases h with
  | code h => exact ⟨none, 0, [], _, _, _, _, _, _, rfl, World.ownsRow_nil _ _ _ _, .code h⟩
  | arg h h2 => exact ⟨none, 0, [], _, _, _, _, _, _, rfl, World.ownsRow_nil _ _ _ _, .arg h h2⟩
  | ok h h2 vo F hF ho =>
    obtain ⟨A, c, rfl⟩ := own_form ho
    exact ⟨A, c, F.out, _, _, _, _, _, _, rfl, ho, .ok h h2 F hF⟩

section
variable {l ins : List (Int × Int)} {c0 c1 r0 r1 : Int × Int} {k rn : Nat} {ro Oa : List (Int × Int)} {a0 a1 a2 a3 n ee : Int}

theorem each_code (h : EachKn l c0 c1 ins Oa a0 a1 a2 a3 n ee) (hc : (chk l).isSome = false) : Oa.length = 0 ∧ n = 0 ∧ ee = 9 := by
  cases h with
  | code => exact ⟨rfl, rfl, rfl⟩
  | arg h => rw [hc] at h; cases h
  | ok h => rw [hc] at h; cases h

theorem each_right (h : (chk l).isSome = true) (h2 : (rgtB c0 && rgtB c1 && ins.all rgtB) = true) (ht : EachTo l ins c0 c1 k ro rn r0 r1) : Rgt r0 ∧ Rgt r1 := by
  obtain ⟨s, hs⟩ := Option.isSome_iff_exists.1 h
  obtain ⟨hf, sem⟩ := chk_some hs
  simp only [Bool.and_eq_true, rgtB_iff] at h2
  have := (each_bounds sem.good hf (vs := ins.take k) (fun x hx => rg_all h2.2 x (List.mem_of_mem_take hx)) (s := ⟨[], [], c0, c1, 0⟩) ⟨by simp, by simp, h2.1.1, h2.1.2⟩).1
  exact ⟨by rw [← ht.e0]; exact this.c0, by rw [← ht.e1]; exact this.c1⟩

theorem each_arg (h : EachKn l c0 c1 ins Oa a0 a1 a2 a3 n ee) (ht : EachTo l ins c0 c1 k ro rn r0 r1) (hk : k < ins.length) (hc : (chk l).isSome = true) (h2 : (rgtB r0 && rgtB r1 && [ins.getD k (0, 0)].all rgtB) = false) : Oa.length = 0 ∧ n = 0 ∧ ee = 1 := by
  cases h with
  | code h => rw [hc] at h; cases h
  | arg => exact ⟨rfl, rfl, rfl⟩
  | ok h h3 F hF =>
    obtain ⟨p, q⟩ := each_right h h3 ht
    simp only [Bool.and_eq_true] at h3
    have h5 := (rgtB_iff _).2 (rg_getD (rg_all h3.2) k)
    rw [(rgtB_iff _).2 p, (rgtB_iff _).2 q] at h2
    simp only [List.all_cons, List.all_nil, h5] at h2
    cases h2

theorem each_next (ht : EachTo l ins c0 c1 k ro rn r0 r1) (hk : k < ins.length) (hp : 0 < k → (rgtB c0 && rgtB c1 && (ins.take k).all rgtB) = true) (h2 : (rgtB r0 && rgtB r1 && [ins.getD k (0, 0)].all rgtB) = true) : (rgtB c0 && rgtB c1 && (ins.take (k + 1)).all rgtB) = true := by
  simp only [List.all_cons, List.all_nil, Bool.and_true, Bool.and_eq_true] at h2
  by_cases h0 : k = 0
  · subst h0
    have e0 : c0 = r0 := ht.e0
    have e1 : c1 = r1 := ht.e1
    rw [Bool.and_eq_true, Bool.and_eq_true]
    exact ⟨⟨by rw [e0]; exact h2.1.1, by rw [e1]; exact h2.1.2⟩, allB_snoc hk (by simp) h2.2⟩
  · have := hp (by omega)
    rw [Bool.and_eq_true] at this ⊢
    exact ⟨this.1, allB_snoc hk this.2 h2.2⟩

/-- At the end: nothing was there to run, or all was run. -/
theorem each_end (h : EachKn l c0 c1 ins Oa a0 a1 a2 a3 n ee) (ht : EachTo l ins c0 c1 ins.length ro rn r0 r1) (hp : 0 < ins.length → (chk l).isSome = true ∧ (rgtB c0 && rgtB c1 && (ins.take ins.length).all rgtB) = true) :
    (ee = 0 ∧ Oa = ro ∧ n = rn ∧ (a0, a1) = r0 ∧ (a2, a3) = r1) ∨ ((ee = 9 ∨ ee = 1) ∧ ins.length = 0 ∧ n = 0) := by
  rw [List.take_length] at hp
  cases h with
  | code h =>
    refine .inr ⟨.inl rfl, ?_, rfl⟩
    rcases Nat.eq_zero_or_pos ins.length with e | e
    · exact e
    · rw [(hp e).1] at h; cases h
  | arg h h2 =>
    refine .inr ⟨.inr rfl, ?_, rfl⟩
    rcases Nat.eq_zero_or_pos ins.length with e | e
    · exact e
    · rw [(hp e).2] at h2; cases h2
  | ok h h2 F hF =>
    obtain ⟨t1, t2, t3, t4⟩ := ht
    rw [List.take_length, hF] at t1 t2 t3 t4
    exact .inl ⟨rfl, t1, by rw [t2], t3, t4⟩

end

/-- The box of the cells. -/
structure CBx (w : World) (g : Nat) (r0 r1 : Int × Int) : Prop where
  lt : g < w.heap.size
  q0 : w.cell? ⟨g, 0, none⟩ = some (.int .i64 r0.1)
  q1 : w.cell? ⟨g, 1, none⟩ = some (.int .i64 r0.2)
  q2 : w.cell? ⟨g, 2, none⟩ = some (.int .i64 r1.1)
  q3 : w.cell? ⟨g, 3, none⟩ = some (.int .i64 r1.2)
  f : ∀ j, w.frozen? ⟨g, j, none⟩ = false

theorem CBx.keep {w w' : World} {g : Nat} {r0 r1 : Int × Int} (h : CBx w g r0 r1) (hk : w'.heap[g]? = w.heap[g]?) (hs : w.heap.size ≤ w'.heap.size) : CBx w' g r0 r1 := by
  have c := fun j => World.cell?_of_block (a := ⟨g, j, none⟩) hk
  exact ⟨Nat.lt_of_lt_of_le h.lt hs, (c 0).trans h.q0, (c 1).trans h.q1, (c 2).trans h.q2, (c 3).trans h.q3, fun j => (World.frozen?_of_block (a := ⟨g, j, none⟩) hk).trans (h.f j)⟩

theorem CBx.below {w w' : World} {g : Nat} {r0 r1 : Int × Int} (h : CBx w g r0 r1) (hb : Below w.heap.size w w') : CBx w' g r0 r1 := h.keep (hb.block g h.lt) hb.size

def set4 (w : World) (g : Nat) (a b c d : Int) : World := (((w.setCell ⟨g, 0, none⟩ (.int .i64 a)).setCell ⟨g, 1, none⟩ (.int .i64 b)).setCell ⟨g, 2, none⟩ (.int .i64 c)).setCell ⟨g, 3, none⟩ (.int .i64 d)

theorem CBx.put {w : World} {g : Nat} {r0 r1 : Int × Int} (h : CBx w g r0 r1) (a b c d : Int) : CBx (set4 w g a b c d) g (a, b) (c, d) ∧ w.grownBy (set4 w g a b c d) (some g) := by
  have h0 := turned_refl w (some g)
  have h1 := turned_set (p := ⟨g, 0, none⟩) h0 (.inl rfl) (.int .i64 a)
  have h2 := turned_set (p := ⟨g, 1, none⟩) h1 (.inl rfl) (.int .i64 b)
  have h3 := turned_set (p := ⟨g, 2, none⟩) h2 (.inl rfl) (.int .i64 c)
  have h4 := turned_set (p := ⟨g, 3, none⟩) h3 (.inl rfl) (.int .i64 d)
  obtain ⟨l, q0, q1, q2, q3, f⟩ := h
  refine ⟨⟨by simp [set4]; exact l, ?_, ?_, ?_, ?_, fun j => by simp [set4, f]⟩, h4⟩
  all_goals (simp [set4, go_sem, q0, q1, q2, q3]; done)

theorem set4_below {B g : Nat} {w w' : World} (h : Below B w w') (hg : B ≤ g) (a b c d : Int) : Below B w (set4 w' g a b c d) :=
  (((h.setCell hg _).setCell hg _).setCell hg _).setCell hg _

end Go.Proofs.YtfohdoahddommaaDoor
