/- Layer 6, vm: a trimmed program does what the whole does: plain facts. -/
import Derived.Test.YtfohdoahddommaaDoorVmM
import Derived.Test.YtfohdoahddommaaDoorTrmM
namespace Go.Proofs.YtfohdoahddommaaDoor
open Go.RowKit Go.Lib
set_option linter.unusedVariables false
set_option maxRecDepth 100000

/-- Alike but for the steps. -/
structure Lk (s s' : VmS) : Prop where
  st : s.st = s'.st
  out : s.out = s'.out
  c0 : s.c0 = s'.c0
  c1 : s.c1 = s'.c1
  n : s.n ≤ s'.n

theorem Lk.step {s s' : VmS} (h : Lk s s') (o a : Int) (v : Int × Int) : Lk (stepS o a v s) (stepS o a v s') := by
  obtain ⟨st, out, c0, c1, n⟩ := s
  obtain ⟨st', out', c0', c1', n'⟩ := s'
  obtain ⟨h1, h2, h3, h4, h5⟩ := h
  simp only at h1 h2 h3 h4 h5
  subst h1; subst h2; subst h3; subst h4
  rcases op_cases o with rfl | rfl | rfl | rfl | rfl | rfl | rfl | rfl | rfl | rfl | rfl | rfl | rfl | ho
  all_goals first
    | exact ⟨rfl, rfl, rfl, rfl, Nat.succ_le_succ h5⟩
    | (rw [step_else ho, step_else ho]; exact ⟨rfl, rfl, rfl, rfl, Nat.succ_le_succ h5⟩)

section
variable {l : List (Int × Int)} {D : List Int} {mx em : Int} {u0 u1 : Bool} {S : List Bool}

theorem trm_fin (hS : S.length = l.length) (hst : ∀ k, k < l.length → S.getD k false = stCond l D S k) (sem : Sem l D mx em u0 u1) (hf : fitsL l = true) {v : Int × Int} (hv : Rgt v) {m : Nat} :
    ∀ (k t : Nat) (s s' : VmS), l.length - t ≤ k → VmA l m t s' → Lk s s' → Lk (fin (tmTo l S l.length) v (ps S t) s) (fin l v t s') := by
  have hlen : (tmTo l S l.length).length = ps S l.length := tmTo_len (l := l) (S := S) l.length (by omega)
  intro k
  induction k with
  | zero =>
    intro t s s' hk h hl
    rw [fin_end (l := l) (s := s') (by omega), fin_end (by rw [hlen]; exact ps_mono (by omega))]
    exact hl
  | succ k ih =>
    intro t s s' hk h hl
    by_cases ht : t < l.length
    · have hgt := nxt_gt t (opAt l t) (arAt l t) s'
      cases hb : S.getD t false with
      | true =>
        have hlt : ps S t < (tmTo l S l.length).length := by
          rw [hlen]
          have := (ps_yes hb).2
          have := ps_mono (S := S) (show t + 1 ≤ l.length by omega)
          omega
        have h1 := (ps_yes hb).2
        have h2 := ps_leapt l S t
        by_cases h0 : opAt l t = 0
        · rcases trm_kinds hS (hst t ht) hb with ⟨a, _⟩ | ⟨a, _⟩ | ⟨a, _⟩ | ⟨_, _, b, _⟩
          · omega
          · omega
          · omega
          · rw [fin_halt ht h0, fin_halt hlt (b.trans h0)]
            exact ⟨hl.st, hl.out, hl.c0, hl.c1, by show s.n + 1 ≤ s'.n + 1; have := hl.n; omega⟩
        · have hn := h.next sem.good hf hv ht h0
          rw [fin_go ht h0]
          have hi := fun s hl => ih (nxt t (opAt l t) (arAt l t) s') s (stepS (opAt l t) (arAt l t) v s') (by omega) hn hl
          have htop : topV s.st 1 = topV s'.st 1 := by rw [hl.st]
          rcases trm_kinds hS (hst t ht) hb with ⟨a, z, b, c⟩ | ⟨a, z, b, c⟩ | ⟨a, z, b, c⟩ | ⟨a, z, b, c⟩
          · rw [fin_go hlt (by rw [b]; omega), b, c]
            have e : nxt (ps S t) 13 0 s = ps S (nxt t (opAt l t) (arAt l t) s') := by
              unfold nxt
              rw [if_neg (by omega)]
              split <;> omega
            rw [e]
            refine hi _ ?_
            rw [a]
            exact ⟨by show cutV s.st 1 = cutV s'.st 1; rw [hl.st], hl.out, hl.c0, hl.c1, by show s.n + 1 ≤ s'.n + 1; have := hl.n; omega⟩
          · rw [fin_go hlt (by rw [b]; omega), b, c]
            have e : nxt (ps S t) 15 (leaptN l S t) s = ps S (nxt t (opAt l t) (arAt l t) s') := by
              unfold nxt
              rw [a, htop]
              by_cases q : topV s'.st 1 = (0, 0)
              · rw [if_pos (Or.inr ⟨rfl, q⟩), if_pos (Or.inr ⟨rfl, q⟩), Int.toNat_natCast]; omega
              · rw [if_neg (by rintro (e | ⟨_, e⟩); omega; exact q e), if_neg (by rintro (e | ⟨_, e⟩); omega; exact q e)]; omega
            rw [e]
            refine hi _ ?_
            rw [a]
            exact ⟨by show cutV s.st 1 = cutV s'.st 1; rw [hl.st], hl.out, hl.c0, hl.c1, by show s.n + 1 ≤ s'.n + 1; have := hl.n; omega⟩
          · rw [fin_go hlt (by rw [b]; omega), b, c]
            have e : nxt (ps S t) 16 (leaptN l S t) s = ps S (nxt t (opAt l t) (arAt l t) s') := by
              unfold nxt
              rw [a, if_pos (Or.inl rfl), if_pos (Or.inl rfl), Int.toNat_natCast]; omega
            rw [e]
            refine hi _ ?_
            rw [a]
            exact ⟨hl.st, hl.out, hl.c0, hl.c1, by show s.n + 1 ≤ s'.n + 1; have := hl.n; omega⟩
          · rw [fin_go hlt (by rw [b]; exact h0), b, c]
            have e : nxt (ps S t) (opAt l t) (arAt l t) s = ps S (nxt t (opAt l t) (arAt l t) s') := by
              unfold nxt
              rw [if_neg (by omega), if_neg (by omega)]; omega
            rw [e]
            exact hi _ (hl.step _ _ _)
      | false =>
        have hr := h.rch
        rw [Nat.min_eq_left (Nat.le_of_lt ht)] at hr
        have g := sem.ok _ _ _ hr
        have gd := (g.2.2.2.2.2.2 ht).1
        obtain ⟨o1, o2⟩ := st_out (hst t ht) hb (by omega)
        have hn := h.next sem.good hf hv ht (by omega)
        rw [fin_go ht (by omega)]
        have e : ps S t = ps S (nxt t (opAt l t) (arAt l t) s') := by
          unfold nxt
          rw [if_pos (Or.inl o1), ps_leapt, o2, ps_no (by omega) hb]; omega
        rw [e]
        refine ih _ s _ (by omega) hn ?_
        rw [o1]
        exact ⟨hl.st, hl.out, hl.c0, hl.c1, by show s.n ≤ s'.n + 1; have := hl.n; omega⟩
    · rw [fin_end (l := l) (s := s') (by omega), fin_end (by rw [hlen]; exact ps_mono (by omega))]
      exact hl

end

theorem trim_run {l : List (Int × Int)} {s : CkS} (h : chk l = some s) {v : Int × Int} (hv : Rgt v) {x : VmS} (hx : VmR x) : Lk (runS (trimL l s) v x) (runS l v x) := by
  obtain ⟨hf, sem⟩ := chk_some h
  have hS : (stTo l s.D l.length).length = l.length := stTo_len _ _ _
  have hst := fun k (hk : k < l.length) => stTo_at l s.D hk
  have := trm_fin hS hst sem hf hv l.length 0 { x with st := [] } { x with st := [] } (by omega) (VmA.start hx) ⟨rfl, rfl, rfl, rfl, Nat.le_refl _⟩
  rw [ps_zero] at this
  exact this

end Go.Proofs.YtfohdoahddommaaDoor
