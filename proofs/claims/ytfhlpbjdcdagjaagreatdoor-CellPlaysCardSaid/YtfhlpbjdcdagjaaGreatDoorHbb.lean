/- Layer 6, vm: VmEach: plain facts; the box of the cells. -/
import Derived.Test.YtfhlpbjdcdagjaaGreatDoorHaq
import Derived.Test.YtfhlpbjdcdagjaaGreatDoorHan
import Derived.Test.YtfhlpbjdcdagjaaGreatDoorHba
import Derived.Deep.LoopGhost
import Derived.Deep.DeepCutAuto
import Derived.Deep.CutBlock
import Derived.Deep.QuietTactic
import Derived.BigQuiet
import Derived.BigRegion
namespace Go.Proofs.YtfhlpbjdcdagjaaGreatDoor
open Go.RowKit Go.Lib
set_option linter.unusedVariables false
set_option maxRecDepth 100000

/-- One by one: what k runs have come to. -/
structure EachTo (l ins : List (Int × Int)) (c0 c1 : Int × Int) (k : Nat) (ro : List (Int × Int)) (rn : Nat) (r0 r1 : Int × Int) : Prop where
  out : (eachS l (ins.take k) ⟨[], [], c0, c1, 0⟩).out = ro
  n : (eachS l (ins.take k) ⟨[], [], c0, c1, 0⟩).n = rn
  e0 : (eachS l (ins.take k) ⟨[], [], c0, c1, 0⟩).c0 = r0
  e1 : (eachS l (ins.take k) ⟨[], [], c0, c1, 0⟩).c1 = r1

theorem EachTo.start (l ins : List (Int × Int)) (c0 c1 : Int × Int) : EachTo l ins c0 c1 0 [] 0 c0 c1 := ⟨rfl, rfl, rfl, rfl⟩

theorem EachTo.step {l ins : List (Int × Int)} {c0 c1 : Int × Int} {k : Nat} {G : VmS} {ro : List (Int × Int)} {rn : Nat} {r0 r1 : Int × Int} (h : EachTo l ins c0 c1 k ro rn r0 r1) (hk : k < ins.length) (hG : eachS l [ins.getD k (0, 0)] ⟨[], [], r0, r1, 0⟩ = G) :
    EachTo l ins c0 c1 (k + 1) (ro ++ G.out) (rn + G.n) G.c0 G.c1 := by
  have e : eachS l (ins.take (k + 1)) ⟨[], [], c0, c1, 0⟩ = addS ro rn G := by
    rw [eachS_snoc l ins _ k hk, run_add, h.e0, h.e1, h.out, h.n]
    have : runS l (ins.getD k (0, 0)) ⟨[], [], r0, r1, 0⟩ = G := hG
    rw [this]
  exact ⟨by rw [e]; rfl, by rw [e]; rfl, by rw [e]; rfl, by rw [e]; rfl⟩

/-- What Each answered, told apart from where it lies. -/
inductive EachKn (l : List (Int × Int)) (c0 c1 : Int × Int) (ins : List (Int × Int)) : List (Int × Int) → Int → Int → Int → Int → Int → Int → Prop
  | code (h : (chk l).isSome = false) : EachKn l c0 c1 ins [] 0 0 0 0 0 9
  | arg (h : (chk l).isSome = true) (h2 : (rgtB c0 && rgtB c1 && ins.all rgtB) = false) : EachKn l c0 c1 ins [] 0 0 0 0 0 1
  | ok (h : (chk l).isSome = true) (h2 : (rgtB c0 && rgtB c1 && ins.all rgtB) = true) (F : VmS) (hF : eachS l ins ⟨[], [], c0, c1, 0⟩ = F) : EachKn l c0 c1 ins F.out F.c0.1 F.c0.2 F.c1.1 F.c1.2 F.n 0

theorem EachIs.kn {l : List (Int × Int)} {c0 c1 : Int × Int} {ins : List (Int × Int)} {B : Nat} {w : World} {v : Value} (h : EachIs l c0 c1 ins B w v) :
    ∃ A cp Oa a0 a1 a2 a3 n ee, v = .tuple #[resV (.slice A Oa.length cp) a0 a1 a2 a3 n, .int .i64 ee] ∧ w.ownsRow B 31 2 (.slice A Oa.length cp) Oa.length (insCells Oa) ∧ EachKn l c0 c1 ins Oa a0 a1 a2 a3 n ee := by
  cases h with
  | code h => exact ⟨none, 0, [], _, _, _, _, _, _, rfl, World.ownsRow_nil _ _ _ _, .code h⟩
  | arg h h2 => exact ⟨none, 0, [], _, _, _, _, _, _, rfl, World.ownsRow_nil _ _ _ _, .arg h h2⟩
  | ok h h2 vo F hF ho =>
    obtain ⟨A, c, rfl⟩ := own_form ho
    exact ⟨A, c, F.out, _, _, _, _, _, _, rfl, ho, .ok h h2 F hF⟩

section
variable {l ins : List (Int × Int)} {c0 c1 r0 r1 : Int × Int} {k rn : Nat} {ro Oa : List (Int × Int)} {a0 a1 a2 a3 n ee : Int}

theorem each_code (h : EachKn l c0 c1 ins Oa a0 a1 a2 a3 n ee) (hc : (chk l).isSome = false) : Oa.length = 0 ∧ n = 0 ∧ ee = 9 := by
  cases h with
  | code => exact ⟨rfl, rfl, rfl⟩
  | arg h => rw [hc] at h; cases h
  | ok h => rw [hc] at h; cases h

theorem each_right (h : (chk l).isSome = true) (h2 : (rgtB c0 && rgtB c1 && ins.all rgtB) = true) (ht : EachTo l ins c0 c1 k ro rn r0 r1) : Rgt r0 ∧ Rgt r1 := by
  obtain ⟨s, hs⟩ := Option.isSome_iff_exists.1 h
  obtain ⟨hf, sem⟩ := chk_some hs
  simp only [Bool.and_eq_true, rgtB_iff] at h2
  have := (each_bounds sem.good hf (vs := ins.take k) (fun x hx => rg_all h2.2 x (List.mem_of_mem_take hx)) (s := ⟨[], [], c0, c1, 0⟩) ⟨by simp, by simp, h2.1.1, h2.1.2⟩).1
  exact ⟨by rw [← ht.e0]; exact this.c0, by rw [← ht.e1]; exact this.c1⟩

theorem each_arg (h : EachKn l c0 c1 ins Oa a0 a1 a2 a3 n ee) (ht : EachTo l ins c0 c1 k ro rn r0 r1) (hk : k < ins.length) (hc : (chk l).isSome = true) (h2 : (rgtB r0 && rgtB r1 && [ins.getD k (0, 0)].all rgtB) = false) : Oa.length = 0 ∧ n = 0 ∧ ee = 1 := by
  cases h with
  | code h => rw [hc] at h; cases h
  | arg => exact ⟨rfl, rfl, rfl⟩
  | ok h h3 F hF =>
    obtain ⟨p, q⟩ := each_right h h3 ht
    simp only [Bool.and_eq_true] at h3
    have h5 := (rgtB_iff _).2 (rg_getD (rg_all h3.2) k)
    rw [(rgtB_iff _).2 p, (rgtB_iff _).2 q] at h2
    simp only [List.all_cons, List.all_nil, h5] at h2
    cases h2

theorem each_next (ht : EachTo l ins c0 c1 k ro rn r0 r1) (hk : k < ins.length) (hp : 0 < k → (rgtB c0 && rgtB c1 && (ins.take k).all rgtB) = true) (h2 : (rgtB r0 && rgtB r1 && [ins.getD k (0, 0)].all rgtB) = true) : (rgtB c0 && rgtB c1 && (ins.take (k + 1)).all rgtB) = true := by
  simp only [List.all_cons, List.all_nil, Bool.and_true, Bool.and_eq_true] at h2
  by_cases h0 : k = 0
  · subst h0
    have e0 : c0 = r0 := ht.e0
    have e1 : c1 = r1 := ht.e1
    rw [Bool.and_eq_true, Bool.and_eq_true]
    exact ⟨⟨by rw [e0]; exact h2.1.1, by rw [e1]; exact h2.1.2⟩, allB_snoc hk (by simp) h2.2⟩
  · have := hp (by omega)
    rw [Bool.and_eq_true] at this ⊢
    exact ⟨this.1, allB_snoc hk this.2 h2.2⟩

/-- At the end: nothing was there to run, or all was run. -/
theorem each_end (h : EachKn l c0 c1 ins Oa a0 a1 a2 a3 n ee) (ht : EachTo l ins c0 c1 ins.length ro rn r0 r1) (hp : 0 < ins.length → (chk l).isSome = true ∧ (rgtB c0 && rgtB c1 && (ins.take ins.length).all rgtB) = true) :
    (ee = 0 ∧ Oa = ro ∧ n = rn ∧ (a0, a1) = r0 ∧ (a2, a3) = r1) ∨ ((ee = 9 ∨ ee = 1) ∧ ins.length = 0 ∧ n = 0) := by
  rw [List.take_length] at hp
  cases h with
  | code h =>
    refine .inr ⟨.inl rfl, ?_, rfl⟩
    rcases Nat.eq_zero_or_pos ins.length with e | e
    · exact e
    · rw [(hp e).1] at h; cases h
  | arg h h2 =>
    refine .inr ⟨.inr rfl, ?_, rfl⟩
    rcases Nat.eq_zero_or_pos ins.length with e | e
    · exact e
    · rw [(hp e).2] at h2; cases h2
  | ok h h2 F hF =>
    obtain ⟨t1, t2, t3, t4⟩ := ht
    rw [List.take_length, hF] at t1 t2 t3 t4
    exact .inl ⟨rfl, t1, by rw [t2], t3, t4⟩

end

/-- The box of the cells. -/
structure CBx (w : World) (g : Nat) (r0 r1 : Int × Int) : Prop where
  lt : g < w.heap.size
  q0 : w.cell? ⟨g, 0, none⟩ = some (.int .i64 r0.1)
  q1 : w.cell? ⟨g, 1, none⟩ = some (.int .i64 r0.2)
  q2 : w.cell? ⟨g, 2, none⟩ = some (.int .i64 r1.1)
  q3 : w.cell? ⟨g, 3, none⟩ = some (.int .i64 r1.2)
  f : ∀ j, w.frozen? ⟨g, j, none⟩ = false

theorem CBx.keep {w w' : World} {g : Nat} {r0 r1 : Int × Int} (h : CBx w g r0 r1) (hk : w'.heap[g]? = w.heap[g]?) (hs : w.heap.size ≤ w'.heap.size) : CBx w' g r0 r1 := by
  have c := fun j => World.cell?_of_block (a := ⟨g, j, none⟩) hk
  exact ⟨Nat.lt_of_lt_of_le h.lt hs, (c 0).trans h.q0, (c 1).trans h.q1, (c 2).trans h.q2, (c 3).trans h.q3, fun j => (World.frozen?_of_block (a := ⟨g, j, none⟩) hk).trans (h.f j)⟩

theorem CBx.below {w w' : World} {g : Nat} {r0 r1 : Int × Int} (h : CBx w g r0 r1) (hb : Below w.heap.size w w') : CBx w' g r0 r1 := h.keep (hb.block g h.lt) hb.size

def set4 (w : World) (g : Nat) (a b c d : Int) : World := (((w.setCell ⟨g, 0, none⟩ (.int .i64 a)).setCell ⟨g, 1, none⟩ (.int .i64 b)).setCell ⟨g, 2, none⟩ (.int .i64 c)).setCell ⟨g, 3, none⟩ (.int .i64 d)

theorem CBx.put {w : World} {g : Nat} {r0 r1 : Int × Int} (h : CBx w g r0 r1) (a b c d : Int) : CBx (set4 w g a b c d) g (a, b) (c, d) ∧ w.grownBy (set4 w g a b c d) (some g) := by
  have h0 := turned_refl w (some g)
  have h1 := turned_set (p := ⟨g, 0, none⟩) h0 (.inl rfl) (.int .i64 a)
  have h2 := turned_set (p := ⟨g, 1, none⟩) h1 (.inl rfl) (.int .i64 b)
  have h3 := turned_set (p := ⟨g, 2, none⟩) h2 (.inl rfl) (.int .i64 c)
  have h4 := turned_set (p := ⟨g, 3, none⟩) h3 (.inl rfl) (.int .i64 d)
  obtain ⟨l, q0, q1, q2, q3, f⟩ := h
  refine ⟨⟨by simp [set4]; exact l, ?_, ?_, ?_, ?_, fun j => by simp [set4, f]⟩, h4⟩
  all_goals (simp [set4, go_sem, q0, q1, q2, q3]; done)

theorem set4_below {B g : Nat} {w w' : World} (h : Below B w w') (hg : B ≤ g) (a b c d : Int) : Below B w (set4 w' g a b c d) :=
  (((h.setCell hg _).setCell hg _).setCell hg _).setCell hg _

end Go.Proofs.YtfhlpbjdcdagjaaGreatDoor

namespace Go.Proofs.YtfhlpbjdcdagjaaGreatDoor
open Go.RowKit Go.Lib
set_option linter.unusedVariables false
set_option maxRecDepth 100000

/-- What the document's Run keeps: the input's box, the cells' box, the result's box, the stack's row, the output's row. -/
structure RM (w : World) (v1 v2 : Int) (wr : World) (vs vo : Value) (s : VmS) : Prop where
  bel : Below w.heap.size w wr
  k0 : wr.cell? ⟨w.heap.size, 0, none⟩ = some (.int .i64 v1)
  k1 : wr.cell? ⟨w.heap.size, 1, none⟩ = some (.int .i64 v2)
  box : CBx wr (w.heap.size + 1) s.c0 s.c1
  res : CBx wr (w.heap.size + 1 + 1) (0, 0) (0, 0)
  own : wr.ownsRow (w.heap.size + 1 + 1 + 1) 31 2 vs s.st.length (insCells s.st)
  ono : wr.ownsRow (w.heap.size + 1 + 1 + 1) 31 2 vo s.out.length (insCells s.out)
  ne : vs.ownBlock = none ∨ vs.ownBlock ≠ vo.ownBlock

section
variable {w wr w' : World} {v1 v2 : Int} {vs vo vs' vo' : Value} {s : VmS}

theorem RM.below (h : RM w v1 v2 wr vs vo s) (hb : Below wr.heap.size wr w') : RM w v1 v2 w' vs vo s := by
  obtain ⟨hc, _⟩ := bcell hb
  have l0 := World.block_lt_of_cell? wr _ h.k0
  simp only at l0
  exact ⟨h.bel.trans (hb.mono h.bel.size), (hc _ _ l0).trans h.k0, (hc _ _ l0).trans h.k1, h.box.below hb, h.res.below hb, own_below h.own hb, own_below h.ono hb, h.ne⟩

theorem RM.grown {g : Nat} (h : RM w v1 v2 wr vs vo s) (hg : wr.grownBy w' (some g)) (hl : w.heap.size + 1 + 1 + 1 ≤ g) : Below w.heap.size w w' ∧ (w'.cell? ⟨w.heap.size, 0, none⟩ = some (.int .i64 v1) ∧ w'.cell? ⟨w.heap.size, 1, none⟩ = some (.int .i64 v2)) ∧ CBx w' (w.heap.size + 1) s.c0 s.c1 ∧ CBx w' (w.heap.size + 1 + 1) (0, 0) (0, 0) := by
  have n0 : some w.heap.size ≠ some g := by intro e; injection e with e; omega
  have n1 : some (w.heap.size + 1) ≠ some g := by intro e; injection e with e; omega
  have n2 : some (w.heap.size + 1 + 1) ≠ some g := by intro e; injection e with e; omega
  exact ⟨h.bel.grown hg h.bel.size (fun k hk => by injection hk with hk; omega), ⟨hg.cell h.k0 n0, hg.cell h.k1 n0⟩, h.box.keep (hg.block _ h.box.lt n1) hg.size, h.res.keep (hg.block _ h.res.lt n2) hg.size⟩

theorem grown_opt {row : Option Nat} {P : World → Prop} (hg : wr.grownBy w' row) (h0 : row = none → Below wr.heap.size wr w') (hs : ∀ g, row = some g → wr.grownBy w' (some g) → P w') (hn : Below wr.heap.size wr w' → P w') : P w' := by
  cases row with
  | none => exact hn (h0 rfl)
  | some g => exact hs g rfl hg

theorem grown_none (hg : wr.grownBy w' none) : Below wr.heap.size wr w' := ⟨hg.os, hg.tape, hg.output, hg.size, fun i hi => hg.block i hi (by simp)⟩

/-- The stack's row has changed, or lies in a new block. -/
theorem RM.stack {st' : List (Int × Int)} (h : RM w v1 v2 wr vs vo s) (hg : wr.grownBy w' vs.ownBlock) (ho : w'.ownsRow (w.heap.size + 1 + 1 + 1) 31 2 vs' st'.length (insCells st')) (hb : vs'.ownBlock = vs.ownBlock ∨ ∀ k, vs'.ownBlock = some k → wr.heap.size ≤ k) :
    RM w v1 v2 w' vs' vo { s with st := st' } := by
  have hne : vs'.ownBlock = none ∨ vs'.ownBlock ≠ vo.ownBlock := by
    rcases hb with e | e
    · rw [e]; exact h.ne
    · cases hk : vs'.ownBlock with
      | none => exact .inl rfl
      | some k =>
        refine .inr fun q => ?_
        have := e k hk
        have := (h.ono.lt k q.symm).2
        omega
  cases hv : vs.ownBlock with
  | none =>
    rw [hv] at hg
    have hbl := grown_none hg
    have hr := h.below hbl
    exact ⟨hr.bel, hr.k0, hr.k1, hr.box, hr.res, ho, hr.ono, hne⟩
  | some g =>
    rw [hv] at hg
    obtain ⟨a, ⟨b1, b2⟩, c, d⟩ := h.grown hg (h.own.lt g hv).1
    refine ⟨a, b1, b2, c, d, ho, h.ono.kept hg ?_, hne⟩
    rcases h.ne with e | e
    · rw [hv] at e; cases e
    · exact .inr fun q => e (by rw [hv]; exact q.symm)

/-- .. the output's. -/
theorem RM.emit {out' : List (Int × Int)} (h : RM w v1 v2 wr vs vo s) (hg : wr.grownBy w' vo.ownBlock) (ho : w'.ownsRow (w.heap.size + 1 + 1 + 1) 31 2 vo' out'.length (insCells out')) (hb : vo'.ownBlock = vo.ownBlock ∨ ∀ k, vo'.ownBlock = some k → wr.heap.size ≤ k) :
    RM w v1 v2 w' vs vo' { s with out := out' } := by
  have hne : vs.ownBlock = none ∨ vs.ownBlock ≠ vo'.ownBlock := by
    rcases hb with e | e
    · rw [e]; exact h.ne
    · cases hk : vs.ownBlock with
      | none => exact .inl rfl
      | some k =>
        refine .inr fun q => ?_
        have := e k q.symm
        have := (h.own.lt k hk).2
        omega
  cases hv : vo.ownBlock with
  | none =>
    rw [hv] at hg
    have hbl := grown_none hg
    have hr := h.below hbl
    exact ⟨hr.bel, hr.k0, hr.k1, hr.box, hr.res, hr.own, ho, hne⟩
  | some g =>
    rw [hv] at hg
    obtain ⟨a, ⟨b1, b2⟩, c, d⟩ := h.grown hg (h.ono.lt g hv).1
    exact ⟨a, b1, b2, c, d, h.own.kept hg (by rw [← hv]; exact h.ne), ho, hne⟩

/-- The cells are set. -/
theorem RM.cells (h : RM w v1 v2 wr vs vo s) (a b c d : Int) : RM w v1 v2 (set4 wr (w.heap.size + 1) a b c d) vs vo { s with c0 := (a, b), c1 := (c, d) } := by
  obtain ⟨hb, hg⟩ := h.box.put a b c d
  have n0 : some w.heap.size ≠ some (w.heap.size + 1) := by intro e; injection e with e; omega
  have n2 : some (w.heap.size + 1 + 1) ≠ some (w.heap.size + 1) := by intro e; injection e with e; omega
  exact ⟨set4_below h.bel (Nat.le_succ _) _ _ _ _, hg.cell h.k0 n0, hg.cell h.k1 n0, hb, h.res.keep (hg.block _ h.res.lt n2) hg.size, h.own.kept hg (own_ne h.own (by omega)), h.ono.kept hg (own_ne h.ono (by omega)), h.ne⟩

end

theorem insCells_set (q : List (Int × Int)) (j : Nat) (x y : Int) : insCells (q.set j (x, y)) = ((insCells q).set (j * 2) (.int .i64 x)).set (j * 2 + 1) (.int .i64 y) := by
  induction q generalizing j with
  | nil => simp [insCells]
  | cons z q ih =>
    cases j with
    | zero => simp [insCells]
    | succ j =>
      have e : ∀ z q, insCells (z :: q) = .int .i64 z.1 :: .int .i64 z.2 :: insCells q := fun _ _ => rfl
      rw [List.set_cons_succ, e, e, ih, show (j + 1) * 2 = j * 2 + 1 + 1 by omega]
      rfl

section
variable {w wr w' : World} {v1 v2 : Int} {vo : Value} {s : VmS} {g c n : Nat}

/-- A value of the stack is set. -/
theorem RM.put (h : RM w v1 v2 wr (.slice (some ⟨g, 0, none⟩) s.st.length c) vo s) (j : Nat) (x y : Int) :
    RM w v1 v2 ((wr.setCell ⟨g, j * 2, none⟩ (.int .i64 x)).setCell ⟨g, j * 2 + 1, none⟩ (.int .i64 y)) (.slice (some ⟨g, 0, none⟩) s.st.length c) vo { s with st := s.st.set j (x, y) } := by
  obtain ⟨h1, h2⟩ := h.own.stored (j * 2) (.int .i64 x)
  obtain ⟨h3, h4⟩ := h1.stored (j * 2 + 1) (.int .i64 y)
  refine h.stack (vs' := .slice (some ⟨g, 0, none⟩) s.st.length c) (turned_trans h2 h4) ?_ (.inl rfl)
  rw [insCells_set, List.length_set]
  exact h3

/-- The stack is cut. -/
theorem RM.cut {A : Option Addr} (h : RM w v1 v2 wr (.slice A s.st.length c) vo s) (k : Nat) (hk : k ≤ s.st.length) : RM w v1 v2 wr (.slice A k c) vo { s with st := s.st.take k } :=
  ⟨h.bel, h.k0, h.k1, h.box, h.res, own_cut h.own k hk, h.ono, by rw [blk_len A k s.st.length]; exact h.ne⟩

end

/-- The code from region k on. -/
noncomputable def runCod (k : Nat) : Code := (Tryz.f33.body.bind (cutAt k)).getD .skip

/-- The frame of the document's Run. -/
structure FrR (g : Nat) (x0 vo vs : Value) (N T : Int) (x13 x14 x15 : Value) (a : Act) : Prop where
  size : a.tmps.size = 286
  defers : a.defers = []
  t0 : a.tmps.getD 0 undef = x0
  t4 : a.tmps.getD 4 undef = .pointer (some ⟨g, 0, none⟩)
  t5 : a.tmps.getD 5 undef = .pointer (some ⟨g + 1, 0, none⟩)
  t7 : a.tmps.getD 7 undef = .pointer (some ⟨g + 1 + 1, 0, none⟩)
  t9 : a.tmps.getD 9 undef = vo
  t10 : a.tmps.getD 10 undef = vs
  t11 : a.tmps.getD 11 undef = .int .i64 N
  t12 : a.tmps.getD 12 undef = .int .i64 T
  t13 : a.tmps.getD 13 undef = x13
  t14 : a.tmps.getD 14 undef = x14
  t15 : a.tmps.getD 15 undef = x15

theorem FrR.open_ {g : Nat} {x0 vo vs x13 x14 x15 : Value} {N T : Int} {a : Act} (h : FrR g x0 vo vs N T x13 x14 x15 a) : ∃ u : Nat → Value, a = ⟨(x0 :: u 1 :: u 2 :: u 3 :: .pointer (some ⟨g, 0, none⟩) :: .pointer (some ⟨g + 1, 0, none⟩) :: u 6 :: .pointer (some ⟨g + 1 + 1, 0, none⟩) :: u 8 :: vo :: vs :: .int .i64 N :: .int .i64 T :: x13 :: x14 :: x15 :: u 16 :: u 17 :: u 18 :: u 19 :: u 20 :: u 21 :: u 22 :: u 23 :: u 24 :: u 25 :: u 26 :: u 27 :: u 28 :: u 29 :: u 30 :: u 31 :: u 32 :: u 33 :: u 34 :: u 35 :: u 36 :: u 37 :: u 38 :: u 39 :: u 40 :: u 41 :: u 42 :: u 43 :: u 44 :: u 45 :: u 46 :: u 47 :: u 48 :: u 49 :: u 50 :: u 51 :: u 52 :: u 53 :: u 54 :: u 55 :: u 56 :: u 57 :: u 58 :: u 59 :: u 60 :: u 61 :: u 62 :: u 63 :: u 64 :: u 65 :: u 66 :: u 67 :: u 68 :: u 69 :: u 70 :: u 71 :: u 72 :: u 73 :: u 74 :: u 75 :: u 76 :: u 77 :: u 78 :: u 79 :: u 80 :: u 81 :: u 82 :: u 83 :: u 84 :: u 85 :: u 86 :: u 87 :: u 88 :: u 89 :: u 90 :: u 91 :: u 92 :: u 93 :: u 94 :: u 95 :: u 96 :: u 97 :: u 98 :: u 99 :: u 100 :: u 101 :: u 102 :: u 103 :: u 104 :: u 105 :: u 106 :: u 107 :: u 108 :: u 109 :: u 110 :: u 111 :: u 112 :: u 113 :: u 114 :: u 115 :: u 116 :: u 117 :: u 118 :: u 119 :: u 120 :: u 121 :: u 122 :: u 123 :: u 124 :: u 125 :: u 126 :: u 127 :: u 128 :: u 129 :: u 130 :: u 131 :: u 132 :: u 133 :: u 134 :: u 135 :: u 136 :: u 137 :: u 138 :: u 139 :: u 140 :: u 141 :: u 142 :: u 143 :: u 144 :: u 145 :: u 146 :: u 147 :: u 148 :: u 149 :: u 150 :: u 151 :: u 152 :: u 153 :: u 154 :: u 155 :: u 156 :: u 157 :: u 158 :: u 159 :: u 160 :: u 161 :: u 162 :: u 163 :: u 164 :: u 165 :: u 166 :: u 167 :: u 168 :: u 169 :: u 170 :: u 171 :: u 172 :: u 173 :: u 174 :: u 175 :: u 176 :: u 177 :: u 178 :: u 179 :: u 180 :: u 181 :: u 182 :: u 183 :: u 184 :: u 185 :: u 186 :: u 187 :: u 188 :: u 189 :: u 190 :: u 191 :: u 192 :: u 193 :: u 194 :: u 195 :: u 196 :: u 197 :: u 198 :: u 199 :: u 200 :: u 201 :: u 202 :: u 203 :: u 204 :: u 205 :: u 206 :: u 207 :: u 208 :: u 209 :: u 210 :: u 211 :: u 212 :: u 213 :: u 214 :: u 215 :: u 216 :: u 217 :: u 218 :: u 219 :: u 220 :: u 221 :: u 222 :: u 223 :: u 224 :: u 225 :: u 226 :: u 227 :: u 228 :: u 229 :: u 230 :: u 231 :: u 232 :: u 233 :: u 234 :: u 235 :: u 236 :: u 237 :: u 238 :: u 239 :: u 240 :: u 241 :: u 242 :: u 243 :: u 244 :: u 245 :: u 246 :: u 247 :: u 248 :: u 249 :: u 250 :: u 251 :: u 252 :: u 253 :: u 254 :: u 255 :: u 256 :: u 257 :: u 258 :: u 259 :: u 260 :: u 261 :: u 262 :: u 263 :: u 264 :: u 265 :: u 266 :: u 267 :: u 268 :: u 269 :: u 270 :: u 271 :: u 272 :: u 273 :: u 274 :: u 275 :: u 276 :: u 277 :: u 278 :: u 279 :: u 280 :: u 281 :: u 282 :: u 283 :: u 284 :: u 285 :: []).toArray, []⟩ := by
  obtain ⟨hn, hd, h0, h4, h5, h7, h9, h10, h11, h12, h13, h14, h15⟩ := h
  obtain ⟨u, hu⟩ : ∃ u : Nat → Value, u = fun k => a.tmps.getD k undef := ⟨_, rfl⟩
  have ha : a = ⟨(u 0 :: u 1 :: u 2 :: u 3 :: u 4 :: u 5 :: u 6 :: u 7 :: u 8 :: u 9 :: u 10 :: u 11 :: u 12 :: u 13 :: u 14 :: u 15 :: u 16 :: u 17 :: u 18 :: u 19 :: u 20 :: u 21 :: u 22 :: u 23 :: u 24 :: u 25 :: u 26 :: u 27 :: u 28 :: u 29 :: u 30 :: u 31 :: u 32 :: u 33 :: u 34 :: u 35 :: u 36 :: u 37 :: u 38 :: u 39 :: u 40 :: u 41 :: u 42 :: u 43 :: u 44 :: u 45 :: u 46 :: u 47 :: u 48 :: u 49 :: u 50 :: u 51 :: u 52 :: u 53 :: u 54 :: u 55 :: u 56 :: u 57 :: u 58 :: u 59 :: u 60 :: u 61 :: u 62 :: u 63 :: u 64 :: u 65 :: u 66 :: u 67 :: u 68 :: u 69 :: u 70 :: u 71 :: u 72 :: u 73 :: u 74 :: u 75 :: u 76 :: u 77 :: u 78 :: u 79 :: u 80 :: u 81 :: u 82 :: u 83 :: u 84 :: u 85 :: u 86 :: u 87 :: u 88 :: u 89 :: u 90 :: u 91 :: u 92 :: u 93 :: u 94 :: u 95 :: u 96 :: u 97 :: u 98 :: u 99 :: u 100 :: u 101 :: u 102 :: u 103 :: u 104 :: u 105 :: u 106 :: u 107 :: u 108 :: u 109 :: u 110 :: u 111 :: u 112 :: u 113 :: u 114 :: u 115 :: u 116 :: u 117 :: u 118 :: u 119 :: u 120 :: u 121 :: u 122 :: u 123 :: u 124 :: u 125 :: u 126 :: u 127 :: u 128 :: u 129 :: u 130 :: u 131 :: u 132 :: u 133 :: u 134 :: u 135 :: u 136 :: u 137 :: u 138 :: u 139 :: u 140 :: u 141 :: u 142 :: u 143 :: u 144 :: u 145 :: u 146 :: u 147 :: u 148 :: u 149 :: u 150 :: u 151 :: u 152 :: u 153 :: u 154 :: u 155 :: u 156 :: u 157 :: u 158 :: u 159 :: u 160 :: u 161 :: u 162 :: u 163 :: u 164 :: u 165 :: u 166 :: u 167 :: u 168 :: u 169 :: u 170 :: u 171 :: u 172 :: u 173 :: u 174 :: u 175 :: u 176 :: u 177 :: u 178 :: u 179 :: u 180 :: u 181 :: u 182 :: u 183 :: u 184 :: u 185 :: u 186 :: u 187 :: u 188 :: u 189 :: u 190 :: u 191 :: u 192 :: u 193 :: u 194 :: u 195 :: u 196 :: u 197 :: u 198 :: u 199 :: u 200 :: u 201 :: u 202 :: u 203 :: u 204 :: u 205 :: u 206 :: u 207 :: u 208 :: u 209 :: u 210 :: u 211 :: u 212 :: u 213 :: u 214 :: u 215 :: u 216 :: u 217 :: u 218 :: u 219 :: u 220 :: u 221 :: u 222 :: u 223 :: u 224 :: u 225 :: u 226 :: u 227 :: u 228 :: u 229 :: u 230 :: u 231 :: u 232 :: u 233 :: u 234 :: u 235 :: u 236 :: u 237 :: u 238 :: u 239 :: u 240 :: u 241 :: u 242 :: u 243 :: u 244 :: u 245 :: u 246 :: u 247 :: u 248 :: u 249 :: u 250 :: u 251 :: u 252 :: u 253 :: u 254 :: u 255 :: u 256 :: u 257 :: u 258 :: u 259 :: u 260 :: u 261 :: u 262 :: u 263 :: u 264 :: u 265 :: u 266 :: u 267 :: u 268 :: u 269 :: u 270 :: u 271 :: u 272 :: u 273 :: u 274 :: u 275 :: u 276 :: u 277 :: u 278 :: u 279 :: u 280 :: u 281 :: u 282 :: u 283 :: u 284 :: u 285 :: []).toArray, a.defers⟩ := by
    rw [hu]; exact frame_eq hn
  have e0 : u 0 = _ := (congrFun hu 0).trans h0
  have e4 : u 4 = _ := (congrFun hu 4).trans h4
  have e5 : u 5 = _ := (congrFun hu 5).trans h5
  have e7 : u 7 = _ := (congrFun hu 7).trans h7
  have e9 : u 9 = _ := (congrFun hu 9).trans h9
  have e10 : u 10 = _ := (congrFun hu 10).trans h10
  have e11 : u 11 = _ := (congrFun hu 11).trans h11
  have e12 : u 12 = _ := (congrFun hu 12).trans h12
  have e13 : u 13 = _ := (congrFun hu 13).trans h13
  have e14 : u 14 = _ := (congrFun hu 14).trans h14
  have e15 : u 15 = _ := (congrFun hu 15).trans h15
  rw [e0, e4, e5, e7, e9, e10, e11, e12, e13, e14, e15, hd] at ha
  exact ⟨u, ha⟩

/-- What a round leaves: the next place T, the steps N, the machine s. -/
def NXr (w : World) (v1 v2 : Int) (x0 : Value) (N T : Int) (s : VmS) (a : Act) (wr : World) : Prop :=
  ∃ (vs vo x13 x14 x15 : Value), FrR w.heap.size x0 vo vs N T x13 x14 x15 a ∧ Hid (RM w v1 v2 wr vs vo s)

theorem NXr.mk {w : World} {v1 v2 : Int} {x0 : Value} {N T : Int} {s : VmS} {a : Act} {wr : World} {vs vo x13 x14 x15 : Value} (h : FrR w.heap.size x0 vo vs N T x13 x14 x15 a) (h2 : Hid (RM w v1 v2 wr vs vo s)) : NXr w v1 v2 x0 N T s a wr := ⟨vs, vo, x13, x14, x15, h, h2⟩

end Go.Proofs.YtfhlpbjdcdagjaaGreatDoor

namespace Go.Proofs.YtfhlpbjdcdagjaaGreatDoor
open Go.RowKit Go.Lib
set_option linter.unusedVariables false
set_option maxRecDepth 100000

section
variable {st : List (Int × Int)} {n : Nat}

theorem take_pred (k : Nat) (hk : k < n) (hn : st.length = n) (z : Int × Int) : (st.set k z).take (k + 1) = st.take k ++ [z] := by
  apply List.ext_getElem?
  intro i
  rw [List.getElem?_append, List.length_take, Nat.min_eq_left (by omega)]
  by_cases h : i < k
  · rw [if_pos h, List.getElem?_take_of_lt (by omega), List.getElem?_set_ne (by omega), List.getElem?_take_of_lt h]
  · rw [if_neg h]
    by_cases h2 : i = k
    · subst h2
      rw [List.getElem?_take_of_lt (by omega), List.getElem?_set_self (by omega)]; simp
    · rw [List.getElem?_eq_none (by rw [List.length_take, List.length_set]; omega), List.getElem?_eq_none (by simp; omega)]

theorem eff_one (hn : st.length = n) (h : 1 ≤ n) (z : Int × Int) : st.set (n - 1) z = cutV st 1 ++ [z] := by
  have := take_pred (n - 1) (by omega) hn z
  rw [show n - 1 + 1 = n by omega, List.take_of_length_le (by rw [List.length_set]; omega)] at this
  rw [this]; unfold cutV; rw [hn]

theorem eff_dup (hn : st.length = n) (h : 1 ≤ n) : st ++ [topV st 1] = cutV st 1 ++ [topV st 1, topV st 1] := by
  have e := eff_one hn h (topV st 1)
  have e2 : st.set (n - 1) (topV st 1) = st := by
    apply List.ext_getElem?
    intro i
    by_cases q : i = n - 1
    · subst q
      rw [List.getElem?_set_self (by omega)]
      unfold topV
      rw [hn, List.getD_eq_getElem?_getD, List.getElem?_eq_getElem (by omega)]
      rfl
    · rw [List.getElem?_set_ne (by omega)]
  rw [e2] at e
  have e3 : st ++ [topV st 1] = (cutV st 1 ++ [topV st 1]) ++ [topV st 1] := congrArg (fun q => q ++ [topV st 1]) e
  rw [e3, List.append_assoc]
  rfl

theorem eff_two (hn : st.length = n) (h : 2 ≤ n) (z : Int × Int) : (st.set (n - 2) z).take (n - 1) = cutV st 2 ++ [z] := by
  have := take_pred (n - 2) (by omega) hn z
  rw [show n - 2 + 1 = n - 1 by omega] at this
  rw [this]; unfold cutV; rw [hn]

theorem eff_swap (hn : st.length = n) (h : 2 ≤ n) (z u : Int × Int) : (st.set (n - 2) z).set (n - 1) u = cutV st 2 ++ [z, u] := by
  have e := eff_one (st := st.set (n - 2) z) (n := n) (by rw [List.length_set]; exact hn) (by omega) u
  rw [e]
  have : cutV (st.set (n - 2) z) 1 = cutV st 2 ++ [z] := by
    unfold cutV; rw [List.length_set, hn]
    have := eff_two hn h z
    unfold cutV at this
    rw [hn] at this
    exact this
  rw [this, List.append_assoc]
  rfl

end

/-- The loop's invariant: place t is next. -/
def RIr (w : World) (v1 v2 : Int) (x0 : Value) (l : List (Int × Int)) (F : VmS) (n : Nat) (a : Act) (wr : World) : Prop :=
  ∃ (t : Nat) (T N : Int) (s : VmS) (vs vo x13 x14 x15 : Value), FrR w.heap.size x0 vo vs N T x13 x14 x15 a ∧ Hid ((t : Int) = T) ∧ Hid ((s.n : Int) = N) ∧ Hid (t ≤ 100 ∧ s.n ≤ t) ∧ Hid (VmA l 0 t s) ∧ Hid (fin l (v1, v2) t s = F) ∧ Hid (RM w v1 v2 wr vs vo s) ∧ l.length - t ≤ n

theorem RIr.next {w : World} {v1 v2 : Int} {x0 : Value} {l : List (Int × Int)} {F s : VmS} {n t : Nat} {T T' N o a : Int} {act : Act} {wr : World} (HT : Hid ((t : Int) = T)) (HN : Hid ((s.n : Int) = N)) (HS : Hid (t ≤ 100 ∧ s.n ≤ t)) (HLT : Hid (t < l.length)) (hf : fitsL l = true) (hi : Hid (rightI (o, a) = true))
    (HNX : Hid (VmA l 0 (nxt t o a s) (stepS o a (v1, v2) s))) (HFN : Hid (fin l (v1, v2) (nxt t o a s) (stepS o a (v1, v2) s) = F)) (hT' : ((nxt t o a s : Nat) : Int) = T') (hx : NXr w v1 v2 x0 (N + 1) T' (stepS o a (v1, v2) s) act wr) (hn : l.length - t ≤ n) :
    ∃ m, m < n ∧ RIr w v1 v2 x0 l F m act wr := by
  obtain ⟨vs, vo, x13, x14, x15, hfr, hrm⟩ := hx
  have hg := nxt_gt t o a s
  have h1 := HLT.out
  have h2 := step_n o a (v1, v2) s
  have h3 := HN.out
  have h4 := HS.out
  exact ⟨l.length - nxt t o a s, by omega, nxt t o a s, T', N + 1, _, vs, vo, x13, x14, x15, hfr, hid hT', hid (by rw [h2]; omega), hid ⟨nxt_small hf h1 hi.out s, by rw [h2]; omega⟩, HNX, HFN, hrm, Nat.le_refl _⟩

/-- The three boxes, and two empty rows. -/
theorem run_start (w : World) (x y a b c d : Int) (t0 t1 : TypeId) : ∃ W : World, ((((w.alloc (.cells #[.int .i64 x, .int .i64 y] t0)).alloc (.cells #[.int .i64 a, .int .i64 b, .int .i64 c, .int .i64 d] t1)).alloc (.cells #[.int .i64 0, .int .i64 0, .int .i64 0, .int .i64 0] t1)).alloc (.cells #[] 31)).alloc (.cells #[] 31) = W ∧
    Hid (RM w x y W (.slice (some ⟨w.heap.size + 1 + 1 + 1 + 1, 0, none⟩) 0 0) (.slice (some ⟨w.heap.size + 1 + 1 + 1, 0, none⟩) 0 0) ⟨[], [], (a, b), (c, d), 0⟩) := by
  refine ⟨_, rfl, hid ?_⟩
  have b1 := (Below.refl w.heap.size w).alloc (Nat.le_refl _) (.cells #[.int .i64 x, .int .i64 y] t0)
  obtain ⟨w1, hw1⟩ : ∃ w1, w.alloc (.cells #[.int .i64 x, .int .i64 y] t0) = w1 := ⟨_, rfl⟩
  have s1 : w1.heap.size = w.heap.size + 1 := by rw [← hw1, World.size_alloc]
  have k0 : w1.cell? ⟨w.heap.size, 0, none⟩ = some (.int .i64 x) := by rw [← hw1]; simp
  have k1 : w1.cell? ⟨w.heap.size, 1, none⟩ = some (.int .i64 y) := by rw [← hw1]; simp
  rw [hw1] at b1 ⊢
  clear hw1
  obtain ⟨w2, hw2, b2, c2⟩ : ∃ w2, w1.alloc (.cells #[.int .i64 a, .int .i64 b, .int .i64 c, .int .i64 d] t1) = w2 ∧ Below w1.heap.size w1 w2 ∧ CBx w2 w1.heap.size (a, b) (c, d) := ⟨_, rfl, (Below.refl _ w1).alloc (Nat.le_refl _) _, ⟨by simp, by simp, by simp, by simp, by simp, fun j => World.frozen?_alloc_new _ _ _ _⟩⟩
  have s2 : w2.heap.size = w1.heap.size + 1 := by rw [← hw2, World.size_alloc]
  rw [hw2]
  clear hw2
  obtain ⟨w3, hw3, b3, c3⟩ : ∃ w3, w2.alloc (.cells #[.int .i64 0, .int .i64 0, .int .i64 0, .int .i64 0] t1) = w3 ∧ Below w2.heap.size w2 w3 ∧ CBx w3 w2.heap.size (0, 0) (0, 0) := ⟨_, rfl, (Below.refl _ w2).alloc (Nat.le_refl _) _, ⟨by simp, by simp, by simp, by simp, by simp, fun j => World.frozen?_alloc_new _ _ _ _⟩⟩
  have s3 : w3.heap.size = w2.heap.size + 1 := by rw [← hw3, World.size_alloc]
  rw [hw3]
  clear hw3
  have o4 := World.ownsRow_made (base := w3.heap.size) (e := 31) (size := 2) w3 #[] 0 (Nat.le_refl _) (by unfold maxLen; omega) rfl
  have b4 := (Below.refl w3.heap.size w3).alloc (Nat.le_refl _) (.cells #[] 31)
  obtain ⟨w4, hw4⟩ : ∃ w4, w3.alloc (.cells #[] 31) = w4 := ⟨_, rfl⟩
  have s4 : w4.heap.size = w3.heap.size + 1 := by rw [← hw4, World.size_alloc]
  rw [hw4] at o4 b4 ⊢
  clear hw4
  have o5 := World.ownsRow_made (base := w3.heap.size) (e := 31) (size := 2) w4 #[] 0 (by omega) (by unfold maxLen; omega) rfl
  have b5 := (Below.refl w4.heap.size w4).alloc (Nat.le_refl _) (.cells #[] 31)
  have o45 := own_below o4 b5
  have e3 : w3.heap.size = w.heap.size + 1 + 1 + 1 := by omega
  have e4 : w4.heap.size = w.heap.size + 1 + 1 + 1 + 1 := by omega
  rw [e3] at o45 o5
  rw [e4] at o5
  have b25 := b3.trans ((b4.mono (by omega)).trans (b5.mono (by omega)))
  have b15 := b2.trans (b25.mono (by omega))
  have b05 := b1.trans (b15.mono (by omega))
  have hc := (bcell b15).1
  refine ⟨b05, (hc _ _ (by omega)).trans k0, (hc _ _ (by omega)).trans k1, ?_, ?_, o5, o45, .inr (by simp [Value.ownBlock])⟩
  · have := c2.below b25
    rw [s1] at this
    exact this
  · have := c3.below ((b4.mono (by omega)).trans (b5.mono (by omega)))
    rw [s2, s1] at this
    exact this

end Go.Proofs.YtfhlpbjdcdagjaaGreatDoor
