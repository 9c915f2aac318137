/- Layer 6, vm: what a program does, step by step: plain facts. -/
import Derived.Test.YtfohdoahddommaaDoorChkM
import Derived.Test.YtfohdoahddommaaDoorGauV
namespace Go.Proofs.YtfohdoahddommaaDoor
open Go.RowKit Go.Lib
set_option linter.unusedVariables false

/-- Is a value right? -/
def Rgt (x : Int × Int) : Prop := into x.1 = x.1 ∧ into x.2 = x.2

theorem Rgt.i64 {x : Int × Int} (h : Rgt x) : I64 x.1 ∧ I64 x.2 := ⟨by rw [← h.1]; exact into_i64 _, by rw [← h.2]; exact into_i64 _⟩

theorem rg_norm (a b : Int) : Rgt (into a, into b) := ⟨into_into a, into_into b⟩

theorem rg_small {a b : Int} (h0 : -524288 ≤ a) (h1 : a ≤ 524287) (h2 : -524288 ≤ b) (h3 : b ≤ 524287) : Rgt (a, b) := ⟨into_of a h0 h1, into_of b h2 h3⟩

theorem rg_zero : Rgt (0, 0) := rg_small (by omega) (by omega) (by omega) (by omega)

/-- The machine between two instructions: the stack (its top is the last), what was put out, the cells, the steps. -/
structure VmS where
  st : List (Int × Int)
  out : List (Int × Int)
  c0 : Int × Int
  c1 : Int × Int
  n : Nat

def topV (l : List (Int × Int)) (k : Nat) : Int × Int := l.getD (l.length - k) (0, 0)
def cutV (l : List (Int × Int)) (k : Nat) : List (Int × Int) := l.take (l.length - k)

def subV (x y : Int × Int) : Int × Int := (into (into x.1 - into y.1), into (into x.2 - into y.2))
def conjV (x : Int × Int) : Int × Int := (into x.1, into (-into x.2))
def turnV (x : Int × Int) : Int × Int := (into (-into x.2), into x.1)
def lessV (x y : Int × Int) : Int × Int := if into x.1 < into y.1 then (1, 0) else (0, 0)

def twoV (o : Int) (x y : Int × Int) : Int × Int := if o = 6 then addV x y else if o = 7 then subV x y else if o = 8 then mulV x y else lessV x y

/-- An instruction that only goes on. -/
def doS (o a : Int) (v : Int × Int) (s : VmS) : VmS :=
  if o = 1 then { s with st := s.st ++ [(a, 0)] }
  else if o = 2 then { s with st := s.st ++ [(0, a)] }
  else if o = 3 then { s with st := s.st ++ [v] }
  else if o = 4 then { s with st := s.st ++ [if a = 0 then s.c0 else s.c1] }
  else if o = 5 then { s with st := cutV s.st 1, c0 := if a = 0 then topV s.st 1 else s.c0, c1 := if a = 0 then s.c1 else topV s.st 1 }
  else if o = 9 then { s with st := cutV s.st 1 ++ [conjV (topV s.st 1)] }
  else if o = 10 then { s with st := cutV s.st 1 ++ [turnV (topV s.st 1)] }
  else if o = 13 then { s with st := cutV s.st 1 }
  else if o = 14 then { s with st := cutV s.st 1, out := s.out ++ [topV s.st 1] }
  else if o = 11 then { s with st := cutV s.st 1 ++ [topV s.st 1, topV s.st 1] }
  else if o = 12 then { s with st := cutV s.st 2 ++ [topV s.st 1, topV s.st 2] }
  else { s with st := cutV s.st 2 ++ [twoV o (topV s.st 2) (topV s.st 1)] }

def stepS (o a : Int) (v : Int × Int) (s : VmS) : VmS :=
  if o = 15 then { s with st := cutV s.st 1, n := s.n + 1 }
  else if o = 16 then { s with n := s.n + 1 }
  else { doS o a v s with n := s.n + 1 }

def nxt (t : Nat) (o a : Int) (s : VmS) : Nat := if o = 16 ∨ (o = 15 ∧ topV s.st 1 = (0, 0)) then t + 1 + a.toNat else t + 1

def finN (l : List (Int × Int)) (v : Int × Int) : Nat → Nat → VmS → VmS
  | 0, _, s => s
  | k + 1, t, s => if t < l.length then (if opAt l t = 0 then { s with n := s.n + 1 } else finN l v k (nxt t (opAt l t) (arAt l t) s) (stepS (opAt l t) (arAt l t) v s)) else s

/-- What comes of the machine from place t on. -/
def fin (l : List (Int × Int)) (v : Int × Int) (t : Nat) (s : VmS) : VmS := finN l v (l.length - t) t s

theorem op_cases (o : Int) : o = 15 ∨ o = 16 ∨ o = 1 ∨ o = 2 ∨ o = 3 ∨ o = 4 ∨ o = 5 ∨ o = 9 ∨ o = 10 ∨ o = 13 ∨ o = 14 ∨ o = 11 ∨ o = 12 ∨ (o ≠ 15 ∧ o ≠ 16 ∧ o ≠ 1 ∧ o ≠ 2 ∧ o ≠ 3 ∧ o ≠ 4 ∧ o ≠ 5 ∧ o ≠ 9 ∧ o ≠ 10 ∧ o ≠ 13 ∧ o ≠ 14 ∧ o ≠ 11 ∧ o ≠ 12) := by omega

theorem step_else {o : Int} (h : o ≠ 15 ∧ o ≠ 16 ∧ o ≠ 1 ∧ o ≠ 2 ∧ o ≠ 3 ∧ o ≠ 4 ∧ o ≠ 5 ∧ o ≠ 9 ∧ o ≠ 10 ∧ o ≠ 13 ∧ o ≠ 14 ∧ o ≠ 11 ∧ o ≠ 12) (a : Int) (v : Int × Int) (s : VmS) :
    stepS o a v s = ⟨cutV s.st 2 ++ [twoV o (topV s.st 2) (topV s.st 1)], s.out, s.c0, s.c1, s.n + 1⟩ := by
  obtain ⟨h15, h16, h1, h2, h3, h4, h5, h9, h10, h13, h14, h11, h12⟩ := h
  unfold stepS doS
  rw [if_neg h15, if_neg h16, if_neg h1, if_neg h2, if_neg h3, if_neg h4, if_neg h5, if_neg h9, if_neg h10, if_neg h13, if_neg h14, if_neg h11, if_neg h12]

theorem nxt_gt (t : Nat) (o a : Int) (s : VmS) : t < nxt t o a s := by unfold nxt; split <;> omega

theorem finN_more (l : List (Int × Int)) (v : Int × Int) : ∀ (k t : Nat) (s : VmS), l.length - t ≤ k → finN l v k t s = finN l v (l.length - t) t s
  | 0, t, s, h => by rw [show l.length - t = 0 by omega]
  | k + 1, t, s, h => by
    by_cases ht : t < l.length
    · obtain ⟨m, hm⟩ : ∃ m, l.length - t = m + 1 := ⟨l.length - t - 1, by omega⟩
      rw [hm, finN, finN, if_pos ht, if_pos ht]
      by_cases h0 : opAt l t = 0
      · rw [if_pos h0, if_pos h0]
      · rw [if_neg h0, if_neg h0]
        have hg := nxt_gt t (opAt l t) (arAt l t) s
        rw [finN_more l v k _ _ (by omega), finN_more l v m _ _ (by omega)]
    · rw [show l.length - t = 0 by omega]
      unfold finN
      rw [if_neg ht]
  termination_by k => k

theorem fin_end {l : List (Int × Int)} {v : Int × Int} {t : Nat} {s : VmS} (h : l.length ≤ t) : fin l v t s = s := by
  unfold fin; rw [show l.length - t = 0 by omega, finN]

theorem fin_halt {l : List (Int × Int)} {v : Int × Int} {t : Nat} {s : VmS} (h : t < l.length) (h0 : opAt l t = 0) : fin l v t s = { s with n := s.n + 1 } := by
  unfold fin
  obtain ⟨m, hm⟩ : ∃ m, l.length - t = m + 1 := ⟨l.length - t - 1, by omega⟩
  rw [hm, finN, if_pos h, if_pos h0]

theorem fin_go {l : List (Int × Int)} {v : Int × Int} {t : Nat} {s : VmS} (h : t < l.length) (h0 : opAt l t ≠ 0) : fin l v t s = fin l v (nxt t (opAt l t) (arAt l t) s) (stepS (opAt l t) (arAt l t) v s) := by
  unfold fin
  obtain ⟨m, hm⟩ : ∃ m, l.length - t = m + 1 := ⟨l.length - t - 1, by omega⟩
  have hg := nxt_gt t (opAt l t) (arAt l t) s
  rw [hm, finN, if_pos h, if_neg h0, finN_more l v m _ _ (by omega)]

/-- A run: the stack is empty at first. -/
def runS (l : List (Int × Int)) (v : Int × Int) (s : VmS) : VmS := fin l v 0 { s with st := [] }

def eachS (l : List (Int × Int)) (vs : List (Int × Int)) (s : VmS) : VmS := vs.foldl (fun s v => runS l v s) s

theorem eachS_snoc (l vs : List (Int × Int)) (s : VmS) (k : Nat) (h : k < vs.length) : eachS l (vs.take (k + 1)) s = runS l (vs.getD k (0, 0)) (eachS l (vs.take k) s) := by
  rw [List.take_succ_eq_append_getElem h, eachS, eachS, List.foldl_append, List.getD_eq_getElem?_getD, List.getElem?_eq_getElem h]
  rfl

/-- All values of the machine are right. -/
structure VmR (s : VmS) : Prop where
  st : ∀ x ∈ s.st, Rgt x
  out : ∀ x ∈ s.out, Rgt x
  c0 : Rgt s.c0
  c1 : Rgt s.c1

theorem rg_getD {l : List (Int × Int)} (h : ∀ x ∈ l, Rgt x) (k : Nat) : Rgt (l.getD k (0, 0)) := by
  rw [List.getD_eq_getElem?_getD]
  rcases Nat.lt_or_ge k l.length with hk | hk
  · rw [List.getElem?_eq_getElem hk]; exact h _ (List.getElem_mem hk)
  · rw [List.getElem?_eq_none hk]; exact rg_zero

theorem rg_top {l : List (Int × Int)} (h : ∀ x ∈ l, Rgt x) (k : Nat) : Rgt (topV l k) := rg_getD h _

theorem rg_cut {l : List (Int × Int)} (h : ∀ x ∈ l, Rgt x) (k : Nat) : ∀ x ∈ cutV l k, Rgt x := fun x hx => h x (List.mem_of_mem_take hx)

theorem rg_snoc {l m : List (Int × Int)} (h : ∀ x ∈ l, Rgt x) (h2 : ∀ x ∈ m, Rgt x) : ∀ x ∈ l ++ m, Rgt x := fun x hx => (List.mem_append.1 hx).elim (h x) (h2 x)

theorem rg_one {x : Int × Int} (h : Rgt x) : ∀ y ∈ [x], Rgt y := fun y hy => by rw [List.mem_singleton.1 hy]; exact h

theorem rg_two (o : Int) (x y : Int × Int) : Rgt (twoV o x y) := by
  unfold twoV
  split
  · exact rg_norm _ _
  · split
    · exact rg_norm _ _
    · split
      · exact rg_norm _ _
      · unfold lessV
        split
        · exact rg_small (by omega) (by omega) (by omega) (by omega)
        · exact rg_zero

theorem VmR.step {s : VmS} {o a : Int} {v : Int × Int} (h : VmR s) (hv : Rgt v) (hi : rightI (o, a) = true) : VmR (stepS o a v s) := by
  obtain ⟨b0, b1, b2, b3⟩ := rightI_bounds hi
  simp only at b0 b1 b2 b3
  have ha : Rgt (a, 0) := rg_small b2 b3 (by omega) (by omega)
  have ha' : Rgt (0, a) := rg_small (by omega) (by omega) b2 b3
  rcases op_cases o with rfl | rfl | rfl | rfl | rfl | rfl | rfl | rfl | rfl | rfl | rfl | rfl | rfl | ho
  · exact ⟨rg_cut h.st 1, h.out, h.c0, h.c1⟩
  · exact ⟨h.st, h.out, h.c0, h.c1⟩
  · exact ⟨rg_snoc h.st (rg_one ha), h.out, h.c0, h.c1⟩
  · exact ⟨rg_snoc h.st (rg_one ha'), h.out, h.c0, h.c1⟩
  · exact ⟨rg_snoc h.st (rg_one hv), h.out, h.c0, h.c1⟩
  · exact ⟨rg_snoc h.st (rg_one (by split; exact h.c0; exact h.c1)), h.out, h.c0, h.c1⟩
  · exact ⟨rg_cut h.st 1, h.out, by show Rgt (if a = 0 then topV s.st 1 else s.c0); split; exact rg_top h.st 1; exact h.c0, by show Rgt (if a = 0 then s.c1 else topV s.st 1); split; exact h.c1; exact rg_top h.st 1⟩
  · exact ⟨rg_snoc (rg_cut h.st 1) (rg_one (rg_norm _ _)), h.out, h.c0, h.c1⟩
  · exact ⟨rg_snoc (rg_cut h.st 1) (rg_one (rg_norm _ _)), h.out, h.c0, h.c1⟩
  · exact ⟨rg_cut h.st 1, h.out, h.c0, h.c1⟩
  · exact ⟨rg_cut h.st 1, rg_snoc h.out (rg_one (rg_top h.st 1)), h.c0, h.c1⟩
  · exact ⟨rg_snoc (rg_cut h.st 1) (by intro y hy; simp at hy; rw [hy]; exact rg_top h.st 1), h.out, h.c0, h.c1⟩
  · exact ⟨rg_snoc (rg_cut h.st 2) (by intro y hy; simp at hy; rcases hy with rfl | rfl; exact rg_top h.st 1; exact rg_top h.st 2), h.out, h.c0, h.c1⟩
  · rw [step_else ho]
    exact ⟨rg_snoc (rg_cut h.st 2) (rg_one (rg_two _ _ _)), h.out, h.c0, h.c1⟩

/-- Where a run is: at a place that is come to, with that depth and as many put out. -/
structure VmA (l : List (Int × Int)) (m : Nat) (t : Nat) (s : VmS) : Prop where
  rch : Rch l (min t l.length) s.st.length (s.out.length - m : Int)
  r : VmR s

theorem VmA.start {l : List (Int × Int)} {s : VmS} (h : VmR s) : VmA l s.out.length 0 { s with st := [] } := by
  refine ⟨?_, ⟨by intro x hx; simp at hx, h.out, h.c0, h.c1⟩⟩
  show Rch l (min 0 l.length) 0 _
  rw [Int.sub_self, Nat.zero_min]
  exact Rch.start

theorem len_cut (l : List (Int × Int)) (k : Nat) (h : k ≤ l.length) : ((cutV l k).length : Int) = l.length - k := by
  unfold cutV; rw [List.length_take]; omega

theorem VmA.fine {l : List (Int × Int)} {m t : Nat} {s : VmS} (h : VmA l m t s) (hg : Good l) (ht : t < l.length) : tkI (opAt l t) ≤ s.st.length ∧ s.st.length ≤ 8 ∧ FineI l t s.st.length (s.out.length - m : Int) := by
  have hr := h.rch
  rw [Nat.min_eq_left (Nat.le_of_lt ht)] at hr
  obtain ⟨a, b, c, d⟩ := hg.fine _ _ _ hr
  exact ⟨d ht, by omega, ⟨ht, a, b, c, d ht⟩⟩

theorem sizes {s : VmS} {o a : Int} {v : Int × Int} (h0 : 0 ≤ o) (h17 : o ≤ 17) (ho : o ≠ 0) (ht : tkI o ≤ s.st.length) :
    ((stepS o a v s).st.length : Int) = leftI o s.st.length ∧ ((stepS o a v s).out.length : Int) = s.out.length + emI o := by
  have c1 := len_cut s.st 1
  have c2 := len_cut s.st 2
  have hc : o = 1 ∨ o = 2 ∨ o = 3 ∨ o = 4 ∨ o = 5 ∨ o = 6 ∨ o = 7 ∨ o = 8 ∨ o = 9 ∨ o = 10 ∨ o = 11 ∨ o = 12 ∨ o = 13 ∨ o = 14 ∨ o = 15 ∨ o = 16 ∨ o = 17 := by omega
  rcases hc with rfl | rfl | rfl | rfl | rfl | rfl | rfl | rfl | rfl | rfl | rfl | rfl | rfl | rfl | rfl | rfl | rfl
  all_goals
    simp only [stepS, doS, leftI, tkI, lvI, emI] at ht ⊢
    simp at ht ⊢
    try omega

theorem VmA.next {l : List (Int × Int)} {m t : Nat} {s : VmS} {v : Int × Int} (h : VmA l m t s) (hg : Good l) (hf : fitsL l = true) (hv : Rgt v) (ht : t < l.length) (h0 : opAt l t ≠ 0) :
    VmA l m (nxt t (opAt l t) (arAt l t) s) (stepS (opAt l t) (arAt l t) v s) := by
  have hi : rightI (opAt l t, arAt l t) = true := by
    have h2 := ((fitsL_iff l).1 hf).2
    have e : (opAt l t, arAt l t) = l[t] := by unfold opAt arAt; rw [List.getD_eq_getElem?_getD, List.getElem?_eq_getElem ht]; rfl
    rw [e]
    exact List.all_eq_true.1 h2 _ (List.getElem_mem ht)
  obtain ⟨f1, f2, f3⟩ := h.fine hg ht
  obtain ⟨b0, b1, _, _⟩ := rightI_bounds hi
  simp only at b0 b1
  obtain ⟨s1, s2⟩ := sizes (s := s) (a := arAt l t) (v := v) b0 b1 h0 f1
  refine ⟨?_, h.r.step hv hi⟩
  have hr := h.rch
  rw [Nat.min_eq_left (Nat.le_of_lt ht)] at hr
  have hm : nxt t (opAt l t) (arAt l t) s ∈ sucL l t := by
    unfold nxt sucL nextN
    rw [if_neg h0]
    by_cases hc : opAt l t = 16 ∨ (opAt l t = 15 ∧ topV s.st 1 = (0, 0))
    · rw [if_pos hc]
      rcases hc with h16 | ⟨h15, _⟩
      · rw [if_neg (by omega), if_pos h16]; simp
      · rw [if_pos h15]; simp
    · rw [if_neg hc]
      by_cases h15 : opAt l t = 15
      · rw [if_pos h15]; simp
      · rw [if_neg h15, if_neg (fun e => hc (Or.inl e))]; simp
  have := Rch.step hr f3 hm
  rw [s1, s2, show (s.out.length + emI (opAt l t) - m : Int) = s.out.length - m + emI (opAt l t) by omega]
  exact this

theorem step_n (o a : Int) (v : Int × Int) (s : VmS) : (stepS o a v s).n = s.n + 1 := by
  rcases op_cases o with rfl | rfl | rfl | rfl | rfl | rfl | rfl | rfl | rfl | rfl | rfl | rfl | rfl | ho
  all_goals first
    | rfl
    | rw [step_else ho]

/-- Of a run in a safe program: right values, at most four more, at most as many steps as instructions. -/
theorem fin_bounds {l : List (Int × Int)} (hg : Good l) (hf : fitsL l = true) {v : Int × Int} (hv : Rgt v) {m : Nat} : ∀ (k t : Nat) (s : VmS), l.length - t ≤ k → VmA l m t s →
    VmR (fin l v t s) ∧ (fin l v t s).out.length ≤ m + 4 ∧ (fin l v t s).n ≤ s.n + (l.length - t) := by
  intro k
  induction k with
  | zero =>
    intro t s hk h
    rw [fin_end (by omega)]
    have := hg.fine _ _ _ h.rch
    exact ⟨h.r, by omega, by omega⟩
  | succ k ih =>
    intro t s hk h
    by_cases ht : t < l.length
    · by_cases h0 : opAt l t = 0
      · rw [fin_halt ht h0]
        have := hg.fine _ _ _ h.rch
        exact ⟨⟨h.r.st, h.r.out, h.r.c0, h.r.c1⟩, by show s.out.length ≤ _; omega, by show s.n + 1 ≤ _; omega⟩
      · rw [fin_go ht h0]
        have hgt := nxt_gt t (opAt l t) (arAt l t) s
        obtain ⟨a, b, c⟩ := ih (nxt t (opAt l t) (arAt l t) s) (stepS (opAt l t) (arAt l t) v s) (by omega) (h.next hg hf hv ht h0)
        have hn := step_n (opAt l t) (arAt l t) v s
        rw [hn] at c
        exact ⟨a, b, by omega⟩
    · rw [fin_end (by omega)]
      have := hg.fine _ _ _ h.rch
      exact ⟨h.r, by omega, by omega⟩

theorem run_bounds {l : List (Int × Int)} (hg : Good l) (hf : fitsL l = true) {v : Int × Int} (hv : Rgt v) {s : VmS} (h : VmR s) :
    VmR (runS l v s) ∧ (runS l v s).out.length ≤ s.out.length + 4 ∧ (runS l v s).n ≤ s.n + l.length := by
  have := fin_bounds hg hf hv (l.length) 0 { s with st := [] } (by omega) (VmA.start h)
  exact ⟨this.1, this.2.1, this.2.2⟩

theorem each_bounds {l : List (Int × Int)} (hg : Good l) (hf : fitsL l = true) {vs : List (Int × Int)} (hv : ∀ x ∈ vs, Rgt x) {s : VmS} (h : VmR s) :
    VmR (eachS l vs s) ∧ (eachS l vs s).out.length ≤ s.out.length + 4 * vs.length ∧ (eachS l vs s).n ≤ s.n + l.length * vs.length := by
  induction vs generalizing s with
  | nil => exact ⟨h, by show s.out.length ≤ _; simp, by show s.n ≤ _; simp⟩
  | cons x vs ih =>
    obtain ⟨a, b, c⟩ := run_bounds hg hf (hv x (by simp)) h
    obtain ⟨a', b', c'⟩ := ih (fun y hy => hv y (by simp [hy])) a
    refine ⟨a', ?_, ?_⟩
    · show (eachS l vs (runS l x s)).out.length ≤ _
      rw [List.length_cons]; omega
    · show (eachS l vs (runS l x s)).n ≤ _
      rw [List.length_cons, Nat.mul_succ]; omega

/-- What was put out before, and the steps before, don't matter. -/
def addS (X : List (Int × Int)) (m : Nat) (s : VmS) : VmS := { s with out := X ++ s.out, n := m + s.n }

theorem step_add (o a : Int) (v : Int × Int) (X : List (Int × Int)) (m : Nat) (s : VmS) : stepS o a v (addS X m s) = addS X m (stepS o a v s) := by
  rcases op_cases o with rfl | rfl | rfl | rfl | rfl | rfl | rfl | rfl | rfl | rfl | rfl | rfl | rfl | ho
  all_goals first
    | rfl
    | (rw [step_else ho, step_else ho]; rfl)
    | (show VmS.mk (cutV s.st 1) ((X ++ s.out) ++ [topV s.st 1]) s.c0 s.c1 (m + s.n + 1) = VmS.mk (cutV s.st 1) (X ++ (s.out ++ [topV s.st 1])) s.c0 s.c1 (m + (s.n + 1)); rw [List.append_assoc, Nat.add_assoc])

theorem finN_add (l : List (Int × Int)) (v : Int × Int) (X : List (Int × Int)) (m : Nat) : ∀ (k t : Nat) (s : VmS), finN l v k t (addS X m s) = addS X m (finN l v k t s)
  | 0, t, s => rfl
  | k + 1, t, s => by
    rw [finN, finN]
    split
    · split
      · rfl
      · rw [step_add, show nxt t (opAt l t) (arAt l t) (addS X m s) = nxt t (opAt l t) (arAt l t) s from rfl]
        exact finN_add l v X m k _ _
    · rfl

theorem run_add (l : List (Int × Int)) (v : Int × Int) (s : VmS) : runS l v s = addS s.out s.n (runS l v ⟨[], [], s.c0, s.c1, 0⟩) := by
  unfold runS fin
  rw [← finN_add]
  simp [addS]

/-- Without STORE the cells stay. -/
theorem fin_cells {l : List (Int × Int)} (h : ∀ t, t < l.length → opAt l t ≠ 5) (v : Int × Int) : ∀ (k t : Nat) (s : VmS), (finN l v k t s).c0 = s.c0 ∧ (finN l v k t s).c1 = s.c1
  | 0, t, s => ⟨rfl, rfl⟩
  | k + 1, t, s => by
    rw [finN]
    split
    · next ht =>
      split
      · exact ⟨rfl, rfl⟩
      · obtain ⟨e0, e1⟩ := fin_cells h v k (nxt t (opAt l t) (arAt l t) s) (stepS (opAt l t) (arAt l t) v s)
        have h5 := h t ht
        have hs : (stepS (opAt l t) (arAt l t) v s).c0 = s.c0 ∧ (stepS (opAt l t) (arAt l t) v s).c1 = s.c1 := by
          obtain ⟨o, ho⟩ : ∃ o, opAt l t = o := ⟨_, rfl⟩
          rw [ho] at h5 ⊢
          rcases op_cases o with rfl | rfl | rfl | rfl | rfl | rfl | rfl | rfl | rfl | rfl | rfl | rfl | rfl | ho
          all_goals first
            | exact ⟨rfl, rfl⟩
            | exact absurd rfl h5
            | (rw [step_else ho]; exact ⟨rfl, rfl⟩)
        exact ⟨e0.trans hs.1, e1.trans hs.2⟩
    · exact ⟨rfl, rfl⟩

end Go.Proofs.YtfohdoahddommaaDoor
