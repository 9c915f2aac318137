/- Layer 6, vm: what a program does, step by step: plain facts. -/
import Derived.Test.YtfhlpbjdcdagjaaGreatDoorHab
import Derived.Test.YtfhlpbjdcdagjaaGreatDoorHad
import Derived.Test.YtfhlpbjdcdagjaaGreatDoorHaa
import Derived.Laws.AppendOwnNone
import Derived.Laws.OwnMore
import Derived.Laws.MakeOwn
import Derived.WalkKit
import Derived.Laws.StructEq
namespace Go.Proofs.YtfhlpbjdcdagjaaGreatDoor
open Go.RowKit Go.Lib
set_option linter.unusedVariables false

/-- Is a value right? -/
def Rgt (x : Int × Int) : Prop := into x.1 = x.1 ∧ into x.2 = x.2

theorem Rgt.i64 {x : Int × Int} (h : Rgt x) : I64 x.1 ∧ I64 x.2 := ⟨by rw [← h.1]; exact into_i64 _, by rw [← h.2]; exact into_i64 _⟩

theorem rg_norm (a b : Int) : Rgt (into a, into b) := ⟨into_into a, into_into b⟩

theorem rg_small {a b : Int} (h0 : -524288 ≤ a) (h1 : a ≤ 524287) (h2 : -524288 ≤ b) (h3 : b ≤ 524287) : Rgt (a, b) := ⟨into_of a h0 h1, into_of b h2 h3⟩

theorem rg_zero : Rgt (0, 0) := rg_small (by omega) (by omega) (by omega) (by omega)

/-- The machine between two instructions: the stack (its top is the last), what was put out, the cells, the steps. -/
structure VmS where
  st : List (Int × Int)
  out : List (Int × Int)
  c0 : Int × Int
  c1 : Int × Int
  n : Nat

def topV (l : List (Int × Int)) (k : Nat) : Int × Int := l.getD (l.length - k) (0, 0)
def cutV (l : List (Int × Int)) (k : Nat) : List (Int × Int) := l.take (l.length - k)

def subV (x y : Int × Int) : Int × Int := (into (into x.1 - into y.1), into (into x.2 - into y.2))
def conjV (x : Int × Int) : Int × Int := (into x.1, into (-into x.2))
def turnV (x : Int × Int) : Int × Int := (into (-into x.2), into x.1)
def lessV (x y : Int × Int) : Int × Int := if into x.1 < into y.1 then (1, 0) else (0, 0)

def twoV (o : Int) (x y : Int × Int) : Int × Int := if o = 6 then addV x y else if o = 7 then subV x y else if o = 8 then mulV x y else lessV x y

/-- An instruction that only goes on. -/
def doS (o a : Int) (v : Int × Int) (s : VmS) : VmS :=
  if o = 1 then { s with st := s.st ++ [(a, 0)] }
  else if o = 2 then { s with st := s.st ++ [(0, a)] }
  else if o = 3 then { s with st := s.st ++ [v] }
  else if o = 4 then { s with st := s.st ++ [if a = 0 then s.c0 else s.c1] }
  else if o = 5 then { s with st := cutV s.st 1, c0 := if a = 0 then topV s.st 1 else s.c0, c1 := if a = 0 then s.c1 else topV s.st 1 }
  else if o = 9 then { s with st := cutV s.st 1 ++ [conjV (topV s.st 1)] }
  else if o = 10 then { s with st := cutV s.st 1 ++ [turnV (topV s.st 1)] }
  else if o = 13 then { s with st := cutV s.st 1 }
  else if o = 14 then { s with st := cutV s.st 1, out := s.out ++ [topV s.st 1] }
  else if o = 11 then { s with st := cutV s.st 1 ++ [topV s.st 1, topV s.st 1] }
  else if o = 12 then { s with st := cutV s.st 2 ++ [topV s.st 1, topV s.st 2] }
  else { s with st := cutV s.st 2 ++ [twoV o (topV s.st 2) (topV s.st 1)] }

def stepS (o a : Int) (v : Int × Int) (s : VmS) : VmS :=
  if o = 15 then { s with st := cutV s.st 1, n := s.n + 1 }
  else if o = 16 then { s with n := s.n + 1 }
  else { doS o a v s with n := s.n + 1 }

def nxt (t : Nat) (o a : Int) (s : VmS) : Nat := if o = 16 ∨ (o = 15 ∧ topV s.st 1 = (0, 0)) then t + 1 + a.toNat else t + 1

def finN (l : List (Int × Int)) (v : Int × Int) : Nat → Nat → VmS → VmS
  | 0, _, s => s
  | k + 1, t, s => if t < l.length then (if opAt l t = 0 then { s with n := s.n + 1 } else finN l v k (nxt t (opAt l t) (arAt l t) s) (stepS (opAt l t) (arAt l t) v s)) else s

/-- What comes of the machine from place t on. -/
def fin (l : List (Int × Int)) (v : Int × Int) (t : Nat) (s : VmS) : VmS := finN l v (l.length - t) t s

theorem op_cases (o : Int) : o = 15 ∨ o = 16 ∨ o = 1 ∨ o = 2 ∨ o = 3 ∨ o = 4 ∨ o = 5 ∨ o = 9 ∨ o = 10 ∨ o = 13 ∨ o = 14 ∨ o = 11 ∨ o = 12 ∨ (o ≠ 15 ∧ o ≠ 16 ∧ o ≠ 1 ∧ o ≠ 2 ∧ o ≠ 3 ∧ o ≠ 4 ∧ o ≠ 5 ∧ o ≠ 9 ∧ o ≠ 10 ∧ o ≠ 13 ∧ o ≠ 14 ∧ o ≠ 11 ∧ o ≠ 12) := by omega

theorem step_else {o : Int} (h : o ≠ 15 ∧ o ≠ 16 ∧ o ≠ 1 ∧ o ≠ 2 ∧ o ≠ 3 ∧ o ≠ 4 ∧ o ≠ 5 ∧ o ≠ 9 ∧ o ≠ 10 ∧ o ≠ 13 ∧ o ≠ 14 ∧ o ≠ 11 ∧ o ≠ 12) (a : Int) (v : Int × Int) (s : VmS) :
    stepS o a v s = ⟨cutV s.st 2 ++ [twoV o (topV s.st 2) (topV s.st 1)], s.out, s.c0, s.c1, s.n + 1⟩ := by
  obtain ⟨h15, h16, h1, h2, h3, h4, h5, h9, h10, h13, h14, h11, h12⟩ := h
  unfold stepS doS
  rw [if_neg h15, if_neg h16, if_neg h1, if_neg h2, if_neg h3, if_neg h4, if_neg h5, if_neg h9, if_neg h10, if_neg h13, if_neg h14, if_neg h11, if_neg h12]

theorem nxt_gt (t : Nat) (o a : Int) (s : VmS) : t < nxt t o a s := by unfold nxt; split <;> omega

theorem finN_more (l : List (Int × Int)) (v : Int × Int) : ∀ (k t : Nat) (s : VmS), l.length - t ≤ k → finN l v k t s = finN l v (l.length - t) t s
  | 0, t, s, h => by rw [show l.length - t = 0 by omega]
  | k + 1, t, s, h => by
    by_cases ht : t < l.length
    · obtain ⟨m, hm⟩ : ∃ m, l.length - t = m + 1 := ⟨l.length - t - 1, by omega⟩
      rw [hm, finN, finN, if_pos ht, if_pos ht]
      by_cases h0 : opAt l t = 0
      · rw [if_pos h0, if_pos h0]
      · rw [if_neg h0, if_neg h0]
        have hg := nxt_gt t (opAt l t) (arAt l t) s
        rw [finN_more l v k _ _ (by omega), finN_more l v m _ _ (by omega)]
    · rw [show l.length - t = 0 by omega]
      unfold finN
      rw [if_neg ht]
  termination_by k => k

theorem fin_end {l : List (Int × Int)} {v : Int × Int} {t : Nat} {s : VmS} (h : l.length ≤ t) : fin l v t s = s := by
  unfold fin; rw [show l.length - t = 0 by omega, finN]

theorem fin_halt {l : List (Int × Int)} {v : Int × Int} {t : Nat} {s : VmS} (h : t < l.length) (h0 : opAt l t = 0) : fin l v t s = { s with n := s.n + 1 } := by
  unfold fin
  obtain ⟨m, hm⟩ : ∃ m, l.length - t = m + 1 := ⟨l.length - t - 1, by omega⟩
  rw [hm, finN, if_pos h, if_pos h0]

theorem fin_go {l : List (Int × Int)} {v : Int × Int} {t : Nat} {s : VmS} (h : t < l.length) (h0 : opAt l t ≠ 0) : fin l v t s = fin l v (nxt t (opAt l t) (arAt l t) s) (stepS (opAt l t) (arAt l t) v s) := by
  unfold fin
  obtain ⟨m, hm⟩ : ∃ m, l.length - t = m + 1 := ⟨l.length - t - 1, by omega⟩
  have hg := nxt_gt t (opAt l t) (arAt l t) s
  rw [hm, finN, if_pos h, if_neg h0, finN_more l v m _ _ (by omega)]

/-- A run: the stack is empty at first. -/
def runS (l : List (Int × Int)) (v : Int × Int) (s : VmS) : VmS := fin l v 0 { s with st := [] }

def eachS (l : List (Int × Int)) (vs : List (Int × Int)) (s : VmS) : VmS := vs.foldl (fun s v => runS l v s) s

theorem eachS_snoc (l vs : List (Int × Int)) (s : VmS) (k : Nat) (h : k < vs.length) : eachS l (vs.take (k + 1)) s = runS l (vs.getD k (0, 0)) (eachS l (vs.take k) s) := by
  rw [List.take_succ_eq_append_getElem h, eachS, eachS, List.foldl_append, List.getD_eq_getElem?_getD, List.getElem?_eq_getElem h]
  rfl

/-- All values of the machine are right. -/
structure VmR (s : VmS) : Prop where
  st : ∀ x ∈ s.st, Rgt x
  out : ∀ x ∈ s.out, Rgt x
  c0 : Rgt s.c0
  c1 : Rgt s.c1

theorem rg_getD {l : List (Int × Int)} (h : ∀ x ∈ l, Rgt x) (k : Nat) : Rgt (l.getD k (0, 0)) := by
  rw [List.getD_eq_getElem?_getD]
  rcases Nat.lt_or_ge k l.length with hk | hk
  · rw [List.getElem?_eq_getElem hk]; exact h _ (List.getElem_mem hk)
  · rw [List.getElem?_eq_none hk]; exact rg_zero

theorem rg_top {l : List (Int × Int)} (h : ∀ x ∈ l, Rgt x) (k : Nat) : Rgt (topV l k) := rg_getD h _

theorem rg_cut {l : List (Int × Int)} (h : ∀ x ∈ l, Rgt x) (k : Nat) : ∀ x ∈ cutV l k, Rgt x := fun x hx => h x (List.mem_of_mem_take hx)

theorem rg_snoc {l m : List (Int × Int)} (h : ∀ x ∈ l, Rgt x) (h2 : ∀ x ∈ m, Rgt x) : ∀ x ∈ l ++ m, Rgt x := fun x hx => (List.mem_append.1 hx).elim (h x) (h2 x)

theorem rg_one {x : Int × Int} (h : Rgt x) : ∀ y ∈ [x], Rgt y := fun y hy => by rw [List.mem_singleton.1 hy]; exact h

theorem rg_two (o : Int) (x y : Int × Int) : Rgt (twoV o x y) := by
  unfold twoV
  split
  · exact rg_norm _ _
  · split
    · exact rg_norm _ _
    · split
      · exact rg_norm _ _
      · unfold lessV
        split
        · exact rg_small (by omega) (by omega) (by omega) (by omega)
        · exact rg_zero

theorem VmR.step {s : VmS} {o a : Int} {v : Int × Int} (h : VmR s) (hv : Rgt v) (hi : rightI (o, a) = true) : VmR (stepS o a v s) := by
  obtain ⟨b0, b1, b2, b3⟩ := rightI_bounds hi
  simp only at b0 b1 b2 b3
  have ha : Rgt (a, 0) := rg_small b2 b3 (by omega) (by omega)
  have ha' : Rgt (0, a) := rg_small (by omega) (by omega) b2 b3
  rcases op_cases o with rfl | rfl | rfl | rfl | rfl | rfl | rfl | rfl | rfl | rfl | rfl | rfl | rfl | ho
  · exact ⟨rg_cut h.st 1, h.out, h.c0, h.c1⟩
  · exact ⟨h.st, h.out, h.c0, h.c1⟩
  · exact ⟨rg_snoc h.st (rg_one ha), h.out, h.c0, h.c1⟩
  · exact ⟨rg_snoc h.st (rg_one ha'), h.out, h.c0, h.c1⟩
  · exact ⟨rg_snoc h.st (rg_one hv), h.out, h.c0, h.c1⟩
  · exact ⟨rg_snoc h.st (rg_one (by split; exact h.c0; exact h.c1)), h.out, h.c0, h.c1⟩
  · exact ⟨rg_cut h.st 1, h.out, by show Rgt (if a = 0 then topV s.st 1 else s.c0); split; exact rg_top h.st 1; exact h.c0, by show Rgt (if a = 0 then s.c1 else topV s.st 1); split; exact h.c1; exact rg_top h.st 1⟩
  · exact ⟨rg_snoc (rg_cut h.st 1) (rg_one (rg_norm _ _)), h.out, h.c0, h.c1⟩
  · exact ⟨rg_snoc (rg_cut h.st 1) (rg_one (rg_norm _ _)), h.out, h.c0, h.c1⟩
  · exact ⟨rg_cut h.st 1, h.out, h.c0, h.c1⟩
  · exact ⟨rg_cut h.st 1, rg_snoc h.out (rg_one (rg_top h.st 1)), h.c0, h.c1⟩
  · exact ⟨rg_snoc (rg_cut h.st 1) (by intro y hy; simp at hy; rw [hy]; exact rg_top h.st 1), h.out, h.c0, h.c1⟩
  · exact ⟨rg_snoc (rg_cut h.st 2) (by intro y hy; simp at hy; rcases hy with rfl | rfl; exact rg_top h.st 1; exact rg_top h.st 2), h.out, h.c0, h.c1⟩
  · rw [step_else ho]
    exact ⟨rg_snoc (rg_cut h.st 2) (rg_one (rg_two _ _ _)), h.out, h.c0, h.c1⟩

/-- Where a run is: at a place that is come to, with that depth and as many put out. -/
structure VmA (l : List (Int × Int)) (m : Nat) (t : Nat) (s : VmS) : Prop where
  rch : Rch l (min t l.length) s.st.length (s.out.length - m : Int)
  r : VmR s

theorem VmA.start {l : List (Int × Int)} {s : VmS} (h : VmR s) : VmA l s.out.length 0 { s with st := [] } := by
  refine ⟨?_, ⟨by intro x hx; simp at hx, h.out, h.c0, h.c1⟩⟩
  show Rch l (min 0 l.length) 0 _
  rw [Int.sub_self, Nat.zero_min]
  exact Rch.start

theorem len_cut (l : List (Int × Int)) (k : Nat) (h : k ≤ l.length) : ((cutV l k).length : Int) = l.length - k := by
  unfold cutV; rw [List.length_take]; omega

theorem VmA.fine {l : List (Int × Int)} {m t : Nat} {s : VmS} (h : VmA l m t s) (hg : Good l) (ht : t < l.length) : tkI (opAt l t) ≤ s.st.length ∧ s.st.length ≤ 8 ∧ FineI l t s.st.length (s.out.length - m : Int) := by
  have hr := h.rch
  rw [Nat.min_eq_left (Nat.le_of_lt ht)] at hr
  obtain ⟨a, b, c, d⟩ := hg.fine _ _ _ hr
  exact ⟨d ht, by omega, ⟨ht, a, b, c, d ht⟩⟩

theorem sizes {s : VmS} {o a : Int} {v : Int × Int} (h0 : 0 ≤ o) (h17 : o ≤ 17) (ho : o ≠ 0) (ht : tkI o ≤ s.st.length) :
    ((stepS o a v s).st.length : Int) = leftI o s.st.length ∧ ((stepS o a v s).out.length : Int) = s.out.length + emI o := by
  have c1 := len_cut s.st 1
  have c2 := len_cut s.st 2
  have hc : o = 1 ∨ o = 2 ∨ o = 3 ∨ o = 4 ∨ o = 5 ∨ o = 6 ∨ o = 7 ∨ o = 8 ∨ o = 9 ∨ o = 10 ∨ o = 11 ∨ o = 12 ∨ o = 13 ∨ o = 14 ∨ o = 15 ∨ o = 16 ∨ o = 17 := by omega
  rcases hc with rfl | rfl | rfl | rfl | rfl | rfl | rfl | rfl | rfl | rfl | rfl | rfl | rfl | rfl | rfl | rfl | rfl
  all_goals
    simp only [stepS, doS, leftI, tkI, lvI, emI] at ht ⊢
    simp at ht ⊢
    try omega

theorem VmA.next {l : List (Int × Int)} {m t : Nat} {s : VmS} {v : Int × Int} (h : VmA l m t s) (hg : Good l) (hf : fitsL l = true) (hv : Rgt v) (ht : t < l.length) (h0 : opAt l t ≠ 0) :
    VmA l m (nxt t (opAt l t) (arAt l t) s) (stepS (opAt l t) (arAt l t) v s) := by
  have hi : rightI (opAt l t, arAt l t) = true := by
    have h2 := ((fitsL_iff l).1 hf).2
    have e : (opAt l t, arAt l t) = l[t] := by unfold opAt arAt; rw [List.getD_eq_getElem?_getD, List.getElem?_eq_getElem ht]; rfl
    rw [e]
    exact List.all_eq_true.1 h2 _ (List.getElem_mem ht)
  obtain ⟨f1, f2, f3⟩ := h.fine hg ht
  obtain ⟨b0, b1, _, _⟩ := rightI_bounds hi
  simp only at b0 b1
  obtain ⟨s1, s2⟩ := sizes (s := s) (a := arAt l t) (v := v) b0 b1 h0 f1
  refine ⟨?_, h.r.step hv hi⟩
  have hr := h.rch
  rw [Nat.min_eq_left (Nat.le_of_lt ht)] at hr
  have hm : nxt t (opAt l t) (arAt l t) s ∈ sucL l t := by
    unfold nxt sucL nextN
    rw [if_neg h0]
    by_cases hc : opAt l t = 16 ∨ (opAt l t = 15 ∧ topV s.st 1 = (0, 0))
    · rw [if_pos hc]
      rcases hc with h16 | ⟨h15, _⟩
      · rw [if_neg (by omega), if_pos h16]; simp
      · rw [if_pos h15]; simp
    · rw [if_neg hc]
      by_cases h15 : opAt l t = 15
      · rw [if_pos h15]; simp
      · rw [if_neg h15, if_neg (fun e => hc (Or.inl e))]; simp
  have := Rch.step hr f3 hm
  rw [s1, s2, show (s.out.length + emI (opAt l t) - m : Int) = s.out.length - m + emI (opAt l t) by omega]
  exact this

theorem step_n (o a : Int) (v : Int × Int) (s : VmS) : (stepS o a v s).n = s.n + 1 := by
  rcases op_cases o with rfl | rfl | rfl | rfl | rfl | rfl | rfl | rfl | rfl | rfl | rfl | rfl | rfl | ho
  all_goals first
    | rfl
    | rw [step_else ho]

/-- Of a run in a safe program: right values, at most four more, at most as many steps as instructions. -/
theorem fin_bounds {l : List (Int × Int)} (hg : Good l) (hf : fitsL l = true) {v : Int × Int} (hv : Rgt v) {m : Nat} : ∀ (k t : Nat) (s : VmS), l.length - t ≤ k → VmA l m t s →
    VmR (fin l v t s) ∧ (fin l v t s).out.length ≤ m + 4 ∧ (fin l v t s).n ≤ s.n + (l.length - t) := by
  intro k
  induction k with
  | zero =>
    intro t s hk h
    rw [fin_end (by omega)]
    have := hg.fine _ _ _ h.rch
    exact ⟨h.r, by omega, by omega⟩
  | succ k ih =>
    intro t s hk h
    by_cases ht : t < l.length
    · by_cases h0 : opAt l t = 0
      · rw [fin_halt ht h0]
        have := hg.fine _ _ _ h.rch
        exact ⟨⟨h.r.st, h.r.out, h.r.c0, h.r.c1⟩, by show s.out.length ≤ _; omega, by show s.n + 1 ≤ _; omega⟩
      · rw [fin_go ht h0]
        have hgt := nxt_gt t (opAt l t) (arAt l t) s
        obtain ⟨a, b, c⟩ := ih (nxt t (opAt l t) (arAt l t) s) (stepS (opAt l t) (arAt l t) v s) (by omega) (h.next hg hf hv ht h0)
        have hn := step_n (opAt l t) (arAt l t) v s
        rw [hn] at c
        exact ⟨a, b, by omega⟩
    · rw [fin_end (by omega)]
      have := hg.fine _ _ _ h.rch
      exact ⟨h.r, by omega, by omega⟩

theorem run_bounds {l : List (Int × Int)} (hg : Good l) (hf : fitsL l = true) {v : Int × Int} (hv : Rgt v) {s : VmS} (h : VmR s) :
    VmR (runS l v s) ∧ (runS l v s).out.length ≤ s.out.length + 4 ∧ (runS l v s).n ≤ s.n + l.length := by
  have := fin_bounds hg hf hv (l.length) 0 { s with st := [] } (by omega) (VmA.start h)
  exact ⟨this.1, this.2.1, this.2.2⟩

theorem each_bounds {l : List (Int × Int)} (hg : Good l) (hf : fitsL l = true) {vs : List (Int × Int)} (hv : ∀ x ∈ vs, Rgt x) {s : VmS} (h : VmR s) :
    VmR (eachS l vs s) ∧ (eachS l vs s).out.length ≤ s.out.length + 4 * vs.length ∧ (eachS l vs s).n ≤ s.n + l.length * vs.length := by
  induction vs generalizing s with
  | nil => exact ⟨h, by show s.out.length ≤ _; simp, by show s.n ≤ _; simp⟩
  | cons x vs ih =>
    obtain ⟨a, b, c⟩ := run_bounds hg hf (hv x (by simp)) h
    obtain ⟨a', b', c'⟩ := ih (fun y hy => hv y (by simp [hy])) a
    refine ⟨a', ?_, ?_⟩
    · show (eachS l vs (runS l x s)).out.length ≤ _
      rw [List.length_cons]; omega
    · show (eachS l vs (runS l x s)).n ≤ _
      rw [List.length_cons, Nat.mul_succ]; omega

/-- What was put out before, and the steps before, don't matter. -/
def addS (X : List (Int × Int)) (m : Nat) (s : VmS) : VmS := { s with out := X ++ s.out, n := m + s.n }

theorem step_add (o a : Int) (v : Int × Int) (X : List (Int × Int)) (m : Nat) (s : VmS) : stepS o a v (addS X m s) = addS X m (stepS o a v s) := by
  rcases op_cases o with rfl | rfl | rfl | rfl | rfl | rfl | rfl | rfl | rfl | rfl | rfl | rfl | rfl | ho
  all_goals first
    | rfl
    | (rw [step_else ho, step_else ho]; rfl)
    | (show VmS.mk (cutV s.st 1) ((X ++ s.out) ++ [topV s.st 1]) s.c0 s.c1 (m + s.n + 1) = VmS.mk (cutV s.st 1) (X ++ (s.out ++ [topV s.st 1])) s.c0 s.c1 (m + (s.n + 1)); rw [List.append_assoc, Nat.add_assoc])

theorem finN_add (l : List (Int × Int)) (v : Int × Int) (X : List (Int × Int)) (m : Nat) : ∀ (k t : Nat) (s : VmS), finN l v k t (addS X m s) = addS X m (finN l v k t s)
  | 0, t, s => rfl
  | k + 1, t, s => by
    rw [finN, finN]
    split
    · split
      · rfl
      · rw [step_add, show nxt t (opAt l t) (arAt l t) (addS X m s) = nxt t (opAt l t) (arAt l t) s from rfl]
        exact finN_add l v X m k _ _
    · rfl

theorem run_add (l : List (Int × Int)) (v : Int × Int) (s : VmS) : runS l v s = addS s.out s.n (runS l v ⟨[], [], s.c0, s.c1, 0⟩) := by
  unfold runS fin
  rw [← finN_add]
  simp [addS]

/-- Without STORE the cells stay. -/
theorem fin_cells {l : List (Int × Int)} (h : ∀ t, t < l.length → opAt l t ≠ 5) (v : Int × Int) : ∀ (k t : Nat) (s : VmS), (finN l v k t s).c0 = s.c0 ∧ (finN l v k t s).c1 = s.c1
  | 0, t, s => ⟨rfl, rfl⟩
  | k + 1, t, s => by
    rw [finN]
    split
    · next ht =>
      split
      · exact ⟨rfl, rfl⟩
      · obtain ⟨e0, e1⟩ := fin_cells h v k (nxt t (opAt l t) (arAt l t) s) (stepS (opAt l t) (arAt l t) v s)
        have h5 := h t ht
        have hs : (stepS (opAt l t) (arAt l t) v s).c0 = s.c0 ∧ (stepS (opAt l t) (arAt l t) v s).c1 = s.c1 := by
          obtain ⟨o, ho⟩ : ∃ o, opAt l t = o := ⟨_, rfl⟩
          rw [ho] at h5 ⊢
          rcases op_cases o with rfl | rfl | rfl | rfl | rfl | rfl | rfl | rfl | rfl | rfl | rfl | rfl | rfl | ho
          all_goals first
            | exact ⟨rfl, rfl⟩
            | exact absurd rfl h5
            | (rw [step_else ho]; exact ⟨rfl, rfl⟩)
        exact ⟨e0.trans hs.1, e1.trans hs.2⟩
    · exact ⟨rfl, rfl⟩

end Go.Proofs.YtfhlpbjdcdagjaaGreatDoor

namespace Go.Proofs.YtfhlpbjdcdagjaaGreatDoor
open Go.RowKit
set_option linter.unusedVariables false
set_option maxRecDepth 100000

theorem own_cell {w : World} {B : Nat} {t : TypeId} {v : Value} {n : Nat} {xs : List Value} {size : Nat} (h : w.ownsRow B t size v n xs) (hn : 0 < n) : ∃ g cap, v = .slice (some ⟨g, 0, none⟩) n cap ∧ B ≤ g ∧ g < w.heap.size ∧ n ≤ cap ∧ cap ≤ maxLen ∧ (∀ j, j < n * size → w.cell? ⟨g, j, none⟩ = xs[j]?) ∧ ∀ j, w.frozen? ⟨g, j, none⟩ = false := by
  rcases h.2 with ⟨rfl, h0⟩ | ⟨g, cap, cur, rfl, hb, hg, hc, hm, _⟩
  · omega
  · exact ⟨g, cap, rfl, hb, (Array.getElem?_eq_some_iff.1 hg).1, hc, hm, fun j hj => h.cellAt j hj, fun j => h.frozenAt j⟩

theorem own_form {w : World} {B : Nat} {t : TypeId} {v : Value} {n : Nat} {xs : List Value} {size : Nat} (h : w.ownsRow B t size v n xs) : ∃ A c, v = .slice A n c := by
  rcases h.2 with ⟨rfl, h0⟩ | ⟨g, cap, cur, rfl, _⟩
  · exact ⟨none, 0, by rw [h0]⟩
  · exact ⟨_, _, rfl⟩

theorem own_none {w : World} {B : Nat} {t : TypeId} {v : Value} {xs : List Value} {size : Nat} (h : w.ownsRow B t size v 0 xs) (n : Nat) (hv : v.ownBlock = none) : v = .slice none 0 0 := by
  rcases h.2 with ⟨rfl, h0⟩ | ⟨g, cap, cur, rfl, _⟩
  · rfl
  · simp [Value.ownBlock] at hv

/-- One value in a new block, as append lays it. -/
theorem one_new (w : World) (u : Value) (t : TypeId) : ∀ j v, [u][j]? = some v → (w.alloc (.cells #[u] t)).cell? ((⟨w.heap.size, 0, none⟩ : Addr).add j) = some v :=
  fun j v hj => new_cells w #[u] t j v (by simpa using hj)

end Go.Proofs.YtfhlpbjdcdagjaaGreatDoor

namespace Go.Proofs.YtfhlpbjdcdagjaaGreatDoor
open Go.RowKit Go.Lib
set_option linter.unusedVariables false
set_option maxRecDepth 100000

/-- A program's cells. -/
def insCells (q : List (Int × Int)) : List Value := q.flatMap fun x => [.int .i64 x.1, .int .i64 x.2]

theorem insCells_len (q : List (Int × Int)) : (insCells q).length = q.length * 2 := by
  induction q with
  | nil => rfl
  | cons x q ih => simp only [insCells, List.flatMap_cons, List.length_append, List.length_cons, List.length_nil] at ih ⊢; omega

theorem insCells_snoc (q : List (Int × Int)) (o a : Int) : insCells (q ++ [(o, a)]) = insCells q ++ [.int .i64 o, .int .i64 a] := by simp [insCells]

theorem insCells_at : ∀ (q : List (Int × Int)) (j : Nat), j < q.length → (insCells q)[j * 2]? = some (.int .i64 (q.getD j (0, 0)).1) ∧ (insCells q)[j * 2 + 1]? = some (.int .i64 (q.getD j (0, 0)).2)
  | [], _, h => absurd h (by simp)
  | x :: q, 0, _ => ⟨rfl, rfl⟩
  | x :: q, j + 1, h => by
    have ih := insCells_at q j (by simpa using h)
    have e : insCells (x :: q) = .int .i64 x.1 :: .int .i64 x.2 :: insCells q := rfl
    rw [e, show (j + 1) * 2 = j * 2 + 1 + 1 by omega]
    exact ih

theorem insCells_one (q : List (Int × Int)) : ∀ u ∈ insCells q, u.oneCell' = true := by
  intro u hu
  simp only [insCells, List.mem_flatMap] at hu
  obtain ⟨x, _, hx⟩ := hu
  simp at hx
  rcases hx with rfl | rfl <;> rfl

theorem SlV.of_own {w : World} {B : Nat} {t : TypeId} {v : Value} {q : List (Int × Int)} (h : w.ownsRow B t 2 v q.length (insCells q)) : SlV w w.heap.size v q := by
  rcases h.2 with ⟨rfl, hn⟩ | ⟨g, cap, cur, rfl, hb, hg, hc, hm, hs, hx⟩
  · have : q = [] := List.eq_nil_of_length_eq_zero hn
    subst this
    exact ⟨none, 0, rfl, Nat.le_refl _, fun h => absurd h (by simp)⟩
  · refine ⟨_, cap, rfl, hc, fun _ => ⟨g, 0, rfl, (Array.getElem?_eq_some_iff.1 hg).1, fun j hj => ?_⟩⟩
    obtain ⟨h0, h1⟩ := insCells_at q j hj
    rw [Nat.zero_add, h.cellAt _ (by omega), h.cellAt _ (by omega)]
    exact ⟨h0, h1⟩

theorem insInfo : (Tryz.prog.info? 88).map (fun i => (i.zero, i.size, i.bytes)) = some (some (.agg #[.int .i64 0, .int .i64 0]), 2, 16) := by kernel_rfl

theorem SlV.here {w w' : World} {v : Value} {l : List (Int × Int)} (h : SlV w w.heap.size v l) (hb : Hid (Below w.heap.size w w')) : SlV w' w'.heap.size v l := (h.below hb.out).mono hb.out.size

theorem insCells_append (p q : List (Int × Int)) : insCells (p ++ q) = insCells p ++ insCells q := by simp [insCells]

/-- A slice's cells, where it lies. -/
theorem SlV.cells {w : World} {B : Nat} {A : Option Addr} {n c : Nat} {l : List (Int × Int)} (h : SlV w B (.slice A n c) l) : ∀ ad, A = some ad → ∀ j u, (insCells l)[j]? = some u → w.cell? (ad.add j) = some u := by
  intro ad hA j u hu
  obtain ⟨A', c', hv, hc, hz⟩ := h
  injection hv with h1 h2 h3
  subst h1
  have hj : j < (insCells l).length := by
    rcases Nat.lt_or_ge j (insCells l).length with h | h
    · exact h
    · rw [List.getElem?_eq_none h] at hu; cases hu
  rw [insCells_len] at hj
  obtain ⟨b, o, hA2, hb, hcell⟩ := hz (by omega)
  rw [hA] at hA2
  injection hA2 with hA2
  subst hA2
  obtain ⟨k, hk⟩ : ∃ k, j = k * 2 ∨ j = k * 2 + 1 := ⟨j / 2, by omega⟩
  obtain ⟨i0, i1⟩ := insCells_at l k (by omega)
  obtain ⟨c0, c1⟩ := hcell k (by omega)
  rw [addr_add]
  rcases hk with rfl | rfl
  · rw [i0] at hu; rw [c0]; exact hu
  · rw [i1] at hu; rw [← Nat.add_assoc, c1]; exact hu

theorem SlV.take {w : World} {B : Nat} {A : Option Addr} {n c : Nat} {l : List (Int × Int)} (h : SlV w B (.slice A n c) l) (k : Nat) (hk : k ≤ l.length) : SlV w B (.slice A k c) (l.take k) := by
  obtain ⟨A', c', hv, hc, hz⟩ := h
  injection hv with h1 h2 h3
  subst h1; subst h3
  have hl : (l.take k).length = k := by rw [List.length_take]; omega
  refine ⟨A, c, by rw [hl], by omega, fun hp => ?_⟩
  rw [hl] at hp ⊢
  obtain ⟨b, o, hA2, hb, hcell⟩ := hz (by omega)
  refine ⟨b, o, hA2, hb, fun j hj => ?_⟩
  have := hcell j (by omega)
  rw [show (l.take k).getD j (0, 0) = l.getD j (0, 0) by simp [List.getD_eq_getElem?_getD, hj]]
  exact this

/-- A new slice of one instruction. -/
theorem SlV.lit1 (w : World) (a b : Int) (t : TypeId) :
    SlV (w.alloc (.cells #[.int .i64 a, .int .i64 b] t)) (w.alloc (.cells #[.int .i64 a, .int .i64 b] t)).heap.size (.slice (some ⟨w.heap.size, 0, none⟩) 1 1) [(a, b)] := by
  refine ⟨_, _, rfl, Nat.le_refl _, fun _ => ⟨_, 0, rfl, by simp, fun j hj => ?_⟩⟩
  match j, hj with
  | 0, _ => exact ⟨by simp [World.cell?_alloc_new], by simp [World.cell?_alloc_new]⟩

/-- .. of two. -/
theorem SlV.lit2 (w : World) (a b c d : Int) (t : TypeId) :
    SlV (w.alloc (.cells #[.int .i64 a, .int .i64 b, .int .i64 c, .int .i64 d] t)) (w.alloc (.cells #[.int .i64 a, .int .i64 b, .int .i64 c, .int .i64 d] t)).heap.size (.slice (some ⟨w.heap.size, 0, none⟩) 2 2) [(a, b), (c, d)] := by
  refine ⟨_, _, rfl, Nat.le_refl _, fun _ => ⟨_, 0, rfl, by simp, fun j hj => ?_⟩⟩
  match j, hj with
  | 0, _ => exact ⟨by simp [World.cell?_alloc_new], by simp [World.cell?_alloc_new]⟩
  | 1, _ => exact ⟨by simp [World.cell?_alloc_new], by simp [World.cell?_alloc_new]⟩

end Go.Proofs.YtfhlpbjdcdagjaaGreatDoor

namespace Go.Proofs.YtfhlpbjdcdagjaaGreatDoor
open Go.RowKit Go.Lib
set_option linter.unusedVariables false

/-- An append to the call's own slice stays in its block, or goes into a new one. -/
theorem run_append_blk {P : Program} (w : World) (base : Nat) (t ty e : TypeId) (i : TypeInfo) (z : Value) (size bytes : Nat) (ht : P.underlying t = some (.slice e)) (hi : P.info? e = some i) (hz : i.zero = some z)
    (hsize : i.size = size) (hby : i.bytes = bytes) (hzs : z.cells.size = size) (hsz : 0 < size)
    (v : Value) (n : Nat) (xs : List Value) (hown : w.ownsRow base e size v n xs)
    (a : Addr) (m c : Nat) (news : List Value) (hl : news.length = m * size) (hnews : ∀ j u, news[j]? = some u → w.cell? (a.add j) = some u) (h1 : ∀ u ∈ news, u.oneCell' = true)
    (h63 : n + m ≤ maxLen) (hbytes : (n + m) * bytes ≤ 140737488355328) (hbase : base ≤ w.heap.size) :
    ∃ v' w', (Builtin.append_ #[t, t] ty #[v, .slice (some a) m c]).run P w = .ok v' w' ∧ w'.ownsRow base e size v' (n + m) (xs ++ news) ∧ w.grownBy w' v.ownBlock ∧
      (v'.ownBlock = v.ownBlock ∨ ∀ k, v'.ownBlock = some k → w.heap.size ≤ k) := by
  obtain ⟨v', w', hr, h2, h3, _⟩ := run_append_own (P := P) w base t ty e i z size bytes ht hi hz hsize hby hzs hsz v n xs hown a m c news hl hnews h1 h63 hbytes hbase
  refine ⟨v', w', hr, h2, h3, ?_⟩
  subst hsize
  subst hby
  have hsmall : n + m ≤ 9223372036854775807 := by simp only [maxLen] at h63; omega
  rcases hown.2 with ⟨rfl, rfl⟩ | ⟨g, cap, cur, rfl, hbg, hg, hnc, hcm, hcs, htake⟩
  · have hx : xs = [] := List.eq_nil_of_length_eq_zero (by simpa using hown.1)
    subst hx
    obtain ⟨v2, w2, hr2, o2, _⟩ := run_append_own (P := P) w w.heap.size t ty e i z i.size i.bytes ht hi hz rfl rfl hzs hsz _ 0 [] (World.ownsRow_nil _ _ _ _) a m c news hl hnews h1 h63 hbytes (Nat.le_refl _)
    rw [hr] at hr2
    injection hr2 with e1 e2
    subst e1
    exact Or.inr fun k hk => (o2.lt k hk).1
  · by_cases hroom : n + m ≤ cap
    · have hfit : n * i.size + news.length ≤ cur.size := by rw [hl, hcs, ← Nat.add_mul]; exact Nat.mul_le_mul_right _ hroom
      have hr2 := run_append_room (P := P) w t ty e i ht hi g n cap cur hg a m c news hl hnews h1 hroom hfit
      rw [hr] at hr2
      injection hr2 with e1 e2
      subst e1
      exact Or.inl rfl
    · have holds : ∀ j u, xs[j]? = some u → w.cell? ((⟨g, 0, none⟩ : Addr).add j) = some u := hown.cells (g := g) rfl
      have hr2 := run_append_grow (P := P) w t ty e i z ht hi hz ⟨g, 0, none⟩ n cap xs hown.1 holds a m c news hl hnews (by omega) (by omega) (growslice_fits (by omega) hbytes)
      rw [hr] at hr2
      injection hr2 with e1 e2
      subst e1
      refine Or.inr fun k hk => ?_
      simp [Value.ownBlock] at hk
      omega

theorem wpList_append_blk {P : Program} {w : World} {ops : Array Oper} {rest : List Oper} {o : Oper} {a : Act} {Q : Exit → Act → World → Prop} (hgd : o.guard = none) (s x : Operand) (t : TypeId)
    (ho : o.op = .call { callee := .builtin .append, args := #[s, x], argTypes := #[t, t] })
    (base : Nat) (e : TypeId) (i : TypeInfo) (z : Value) (size bytes : Nat) (ht : P.underlying t = some (.slice e)) (hi : P.info? e = some i) (hz : i.zero = some z)
    (hsize : i.size = size) (hby : i.bytes = bytes) (hzs : z.cells.size = size) (hsz : 0 < size)
    (v : Value) (n : Nat) (xs : List Value) (hs : a.eval s = v) (hown : w.ownsRow base e size v n xs)
    (ad : Addr) (m c : Nat) (news : List Value) (hx : a.eval x = .slice (some ad) m c) (hl : news.length = m * size) (hnews : ∀ j u, news[j]? = some u → w.cell? (ad.add j) = some u) (h1 : ∀ u ∈ news, u.oneCell' = true)
    (h63 : n + m ≤ maxLen) (hbytes : (n + m) * bytes ≤ 140737488355328) (hbase : base ≤ w.heap.size)
    (h : ∀ v' w', w'.ownsRow base e size v' (n + m) (xs ++ news) → w.grownBy w' v.ownBlock → (v'.ownBlock = v.ownBlock ∨ ∀ k, v'.ownBlock = some k → w.heap.size ≤ k) → wpList P ops Q rest (a.put o.dst v') w') : wpList P ops Q (o :: rest) a w := by
  refine wpList_plain hgd fun K hK => ?_
  obtain ⟨v', w', hr, h2, h3, h4⟩ := run_append_blk (P := P) w base t o.type e i z size bytes ht hi hz hsize hby hzs hsz v n xs hown ad m c news hl hnews h1 h63 hbytes hbase
  unfold Oper.wp execOp
  simp only [ho, resolve, invoke, builtin, Sem.run_bind, Sem.run_pure, Result.andThen_ok, List.map_toArray, List.map_cons, List.map_nil, hs, hx, hr]
  exact hK _ _ (h v' w' h2 h3 h4)

/-- The machine's block holds L; its stack and its output lie in rows of their own. -/
structure MchV (w : World) (B b : Nat) (L : List Value) (vs vo : Value) (st out : List (Int × Int)) : Prop where
  le : B ≤ b
  len : L.length = 8
  cells : ∀ k, k < 8 → w.cell? ⟨b, k, none⟩ = L[k]?
  fr : ∀ k, w.frozen? ⟨b, k, none⟩ = false
  own : w.ownsRow (b + 1) 31 2 vs st.length (insCells st)
  ono : w.ownsRow (b + 1) 31 2 vo out.length (insCells out)
  ne : vs.ownBlock = none ∨ vs.ownBlock ≠ vo.ownBlock

def mcells (vp vs vo : Value) (s : VmS) : List Value := [vo, .int .i64 s.c0.1, .int .i64 s.c0.2, .int .i64 s.c1.1, .int .i64 s.c1.2, .int .i64 s.n, vp, vs]

/-- The machine in memory, at b, behind B; the program is vp. -/
def Mch (w : World) (B b : Nat) (vp : Value) (s : VmS) : Prop := ∃ vs vo, MchV w B b (mcells vp vs vo s) vs vo s.st s.out

section
variable {w w' : World} {B b : Nat} {L : List Value} {vs vo vp : Value} {st out : List (Int × Int)} {s : VmS}

theorem MchV.lt (h : MchV w B b L vs vo st out) : b < w.heap.size := by
  have h0 := h.cells 0 (by omega)
  obtain ⟨u, hu⟩ : ∃ u, L[0]? = some u := ⟨_, List.getElem?_eq_getElem (by have := h.len; omega)⟩
  exact World.block_lt_of_cell? w _ (h0.trans hu)

theorem Mch.lt (h : Mch w B b vp s) : b < w.heap.size := by obtain ⟨vs, vo, h⟩ := h; exact h.lt

theorem own_below {B' : Nat} {e : TypeId} {k : Nat} {v : Value} {n : Nat} {xs : List Value} (h : w.ownsRow B' e k v n xs) (hb : Below w.heap.size w w') : w'.ownsRow B' e k v n xs :=
  h.kept (row := none) ⟨hb.os, hb.tape, hb.output, hb.size, fun i hi _ => hb.block i hi⟩ (by
    cases v.ownBlock with
    | none => exact .inl rfl
    | some k => exact .inr (by simp))

theorem MchV.below (h : MchV w B b L vs vo st out) (hb : Below w.heap.size w w') : MchV w' B b L vs vo st out := by
  obtain ⟨hc, hf⟩ := bcell hb
  exact ⟨h.le, h.len, fun k hk => (hc _ _ h.lt).trans (h.cells k hk), fun k => (hf _ _ h.lt).trans (h.fr k), own_below h.own hb, own_below h.ono hb, h.ne⟩

theorem Mch.below (h : Mch w B b vp s) (hb : Below w.heap.size w w') : Mch w' B b vp s := by
  obtain ⟨vs, vo, h⟩ := h
  exact ⟨vs, vo, h.below hb⟩

theorem own_ne {B' : Nat} {e : TypeId} {k : Nat} {v : Value} {n : Nat} {xs : List Value} (h : w.ownsRow B' e k v n xs) {g : Nat} (hg : g < B') : v.ownBlock = none ∨ v.ownBlock ≠ some g := by
  cases hv : v.ownBlock with
  | none => exact .inl rfl
  | some k => exact .inr (by intro e; injection e with e; have := (h.lt k hv).1; omega)

/-- A cell of the machine's own is set. -/
theorem MchV.set (h : MchV w B b L vs vo st out) (j : Nat) (hj : j < 8) (u : Value) : MchV (w.setCell ⟨b, j, none⟩ u) B b (L.set j u) vs vo st out := by
  have hg : w.grownBy (w.setCell ⟨b, j, none⟩ u) (some b) := turned_set (turned_refl w (some b)) (.inl rfl) _
  refine ⟨h.le, by rw [List.length_set]; exact h.len, fun k hk => ?_, fun k => by rw [World.frozen?_setCell]; exact h.fr k, h.own.kept hg (own_ne h.own (by omega)), h.ono.kept hg (own_ne h.ono (by omega)), h.ne⟩
  by_cases e : k = j
  · subst e
    obtain ⟨x, hx⟩ : ∃ x, L[k]? = some x := ⟨_, List.getElem?_eq_getElem (by rw [h.len]; exact hk)⟩
    rw [World.cell?_setCell_same (u := x) _ _ _ ((h.cells k hk).trans hx), List.getElem?_set_self (by rw [h.len]; exact hk)]
  · rw [World.cell?_setCell_other _ _ _ _ (by intro q; injection q with q1 q2; omega), List.getElem?_set_ne (by omega)]
    exact h.cells k hk

/-- Another stack. -/
theorem MchV.stack (h : MchV w B b L vs vo st out) {vs' : Value} {st' : List (Int × Int)} (ho : w.ownsRow (b + 1) 31 2 vs' st'.length (insCells st')) (hn : vs'.ownBlock = none ∨ vs'.ownBlock ≠ vo.ownBlock) : MchV w B b L vs' vo st' out :=
  ⟨h.le, h.len, h.cells, h.fr, ho, h.ono, hn⟩

theorem insCells_take (q : List (Int × Int)) (k : Nat) : insCells (q.take k) = (insCells q).take (k * 2) := by
  induction q generalizing k with
  | nil => simp [insCells]
  | cons x q ih =>
    cases k with
    | zero => simp [insCells]
    | succ k =>
      rw [List.take_succ_cons, show (k + 1) * 2 = k * 2 + 1 + 1 by omega]
      show Value.int .i64 x.1 :: Value.int .i64 x.2 :: insCells (q.take k) = (Value.int .i64 x.1 :: Value.int .i64 x.2 :: insCells q).take (k * 2 + 1 + 1)
      rw [ih, List.take_succ_cons, List.take_succ_cons]

/-- A row of the call's own that is cut. -/
theorem own_cut {B' : Nat} {e : TypeId} {A : Option Addr} {n c : Nat} {q : List (Int × Int)} (h : w.ownsRow B' e 2 (.slice A n c) q.length (insCells q)) (k : Nat) (hk : k ≤ q.length) : w.ownsRow B' e 2 (.slice A k c) (q.take k).length (insCells (q.take k)) := by
  have hl : (q.take k).length = k := by rw [List.length_take]; omega
  refine ⟨insCells_len _, ?_⟩
  rcases h.2 with ⟨hv, hn⟩ | ⟨g, cap, cur, hv, hb, hg, hc, hm, hs, hx⟩
  · injection hv with e1 e2 e3
    exact .inl ⟨by rw [e1, e3]; congr 1; omega, by omega⟩
  · injection hv with e1 e2 e3
    subst e1; subst e3
    refine .inr ⟨g, c, cur, by rw [hl], hb, hg, by omega, hm, hs, ?_⟩
    rw [hl, insCells_take, ← hx, List.take_take, Nat.min_eq_left (by omega)]

/-- What an append to the stack makes of the machine. -/
theorem MchV.app (h : MchV w B b L vs vo st out) {v' : Value} {q : List (Int × Int)} (ho : w'.ownsRow (b + 1) 31 2 v' (st.length + q.length) (insCells st ++ insCells q)) (hg : w.grownBy w' vs.ownBlock)
    (hv : v'.ownBlock = vs.ownBlock ∨ ∀ k, v'.ownBlock = some k → w.heap.size ≤ k) : MchV w' B b L v' vo (st ++ q) out ∧ Below B w w' := by
  have hbn : some b ≠ vs.ownBlock := by
    intro e
    have := (h.own.lt b e.symm).1
    omega
  have hbb := hg.block b h.lt hbn
  refine ⟨⟨h.le, h.len, fun k hk => ?_, fun k => (World.frozen?_of_block (a := ⟨b, k, none⟩) hbb).trans (h.fr k), ?_, h.ono.kept hg ?_, ?_⟩, ?_⟩
  · exact (World.cell?_of_block (a := ⟨b, k, none⟩) hbb).trans (h.cells k hk)
  · rw [List.length_append, insCells_append]; exact ho
  · rcases h.ne with e | e
    · rw [e]; cases vo.ownBlock with
      | none => exact .inl rfl
      | some k => exact .inr (by simp)
    · exact .inr fun q => e q.symm
  · rcases hv with e | e
    · rw [e]; exact h.ne
    · cases hk : v'.ownBlock with
      | none => exact .inl rfl
      | some k =>
        refine .inr fun q => ?_
        have := e k hk
        have := (h.ono.lt k q.symm).2
        omega
  · exact (Below.refl B w).grown hg (Nat.le_trans h.le (Nat.le_of_lt h.lt)) (fun k hk => by have := (h.own.lt k hk).1; have := h.le; omega)

/-- .. to the output. -/
theorem MchV.emit (h : MchV w B b L vs vo st out) {v' : Value} {q : List (Int × Int)} (ho : w'.ownsRow (b + 1) 31 2 v' (out.length + q.length) (insCells out ++ insCells q)) (hg : w.grownBy w' vo.ownBlock)
    (hv : v'.ownBlock = vo.ownBlock ∨ ∀ k, v'.ownBlock = some k → w.heap.size ≤ k) : MchV w' B b L vs v' st (out ++ q) ∧ Below B w w' := by
  have hbn : some b ≠ vo.ownBlock := by
    intro e
    have := (h.ono.lt b e.symm).1
    omega
  have hbb := hg.block b h.lt hbn
  refine ⟨⟨h.le, h.len, fun k hk => ?_, fun k => (World.frozen?_of_block (a := ⟨b, k, none⟩) hbb).trans (h.fr k), h.own.kept hg h.ne, ?_, ?_⟩, ?_⟩
  · exact (World.cell?_of_block (a := ⟨b, k, none⟩) hbb).trans (h.cells k hk)
  · rw [List.length_append, insCells_append]; exact ho
  · rcases hv with e | e
    · rw [e]; exact h.ne
    · cases hk : vs.ownBlock with
      | none => exact .inl rfl
      | some k =>
        refine .inr fun q => ?_
        have := e k q.symm
        have := (h.own.lt k hk).2
        omega
  · exact (Below.refl B w).grown hg (Nat.le_trans h.le (Nat.le_of_lt h.lt)) (fun k hk => by have := (h.ono.lt k hk).1; have := h.le; omega)

end

end Go.Proofs.YtfhlpbjdcdagjaaGreatDoor
