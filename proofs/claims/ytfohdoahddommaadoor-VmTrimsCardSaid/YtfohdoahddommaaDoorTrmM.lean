/- Layer 5, check: what is trimmed does what the whole does: plain facts. -/
import Derived.Test.YtfohdoahddommaaDoorTrmC
import Derived.Test.YtfohdoahddommaaDoorChkN
namespace Go.Proofs.YtfohdoahddommaaDoor
open Go.RowKit Go.Lib
set_option linter.unusedVariables false
set_option maxRecDepth 100000

/-! ### Which stay -/

theorem stTo_drop (l : List (Int × Int)) (D : List Int) (m j : Nat) (h : m + j ≤ l.length) : (stTo l D (m + j)).drop (l.length - m) = (stTo l D m).drop (l.length - m) := by
  induction j with
  | zero => rfl
  | succ j ih =>
    show ((stTo l D (m + j)).set (l.length - 1 - (m + j)) _).drop _ = _
    rw [List.drop_set_of_lt (by omega)]
    exact ih (by omega)

theorem leapt_drop {l : List (Int × Int)} {S S' : List Bool} {k : Nat} (h : S.drop (k + 1) = S'.drop (k + 1)) : leaptN l S k = leaptN l S' k := by
  unfold leaptN; rw [h]

theorem stTo_at (l : List (Int × Int)) (D : List Int) {k : Nat} (hk : k < l.length) : (stTo l D l.length).getD k false = stCond l D (stTo l D l.length) k := by
  obtain ⟨m, hm⟩ : ∃ m, l.length - 1 - k = m := ⟨_, rfl⟩
  have h1 := stTo_drop l D (m + 1) k (by omega)
  have h2 := stTo_drop l D m (k + 1) (by omega)
  rw [show m + 1 + k = l.length by omega, show l.length - (m + 1) = k by omega] at h1
  rw [show m + (k + 1) = l.length by omega, show l.length - m = k + 1 by omega] at h2
  have h3 : (stTo l D l.length).getD k false = (stTo l D (m + 1)).getD k false := by
    have := congrArg (fun x : List Bool => x[0]?) h1
    simp only [List.getElem?_drop, Nat.add_zero] at this
    rw [List.getD_eq_getElem?_getD, List.getD_eq_getElem?_getD, this]
  rw [h3]
  show ((stTo l D m).set (l.length - 1 - m) (stCond l D (stTo l D m) (l.length - 1 - m))).getD k false = _
  rw [show l.length - 1 - m = k by omega, List.getD_eq_getElem?_getD, List.getElem?_set_self (by rw [stTo_len]; exact hk)]
  show stCond l D (stTo l D m) k = _
  unfold stCond
  rw [leapt_drop h2.symm]

/-! ### Where a place goes -/

/-- How many of the first t stay. -/
def ps (S : List Bool) (t : Nat) : Nat := (S.take t).count true

theorem ps_zero (S : List Bool) : ps S 0 = 0 := by unfold ps; simp

theorem ps_succ {S : List Bool} {t : Nat} (h : t < S.length) : ps S (t + 1) = ps S t + if S.getD t false = true then 1 else 0 := count_succ S t _ h rfl

theorem ps_yes {S : List Bool} {t : Nat} (h : S.getD t false = true) : t < S.length ∧ ps S (t + 1) = ps S t + 1 := by
  have hl : t < S.length := by
    rcases Nat.lt_or_ge t S.length with h1 | h1
    · exact h1
    · rw [List.getD_eq_getElem?_getD, List.getElem?_eq_none h1] at h; simp at h
  exact ⟨hl, by rw [ps_succ hl, if_pos h]⟩

theorem ps_no {S : List Bool} {t : Nat} (hl : t < S.length) (h : S.getD t false = false) : ps S (t + 1) = ps S t := by
  rw [ps_succ hl, h]; simp

theorem ps_add (S : List Bool) (t a : Nat) : ps S (t + a) = ps S t + ((S.drop t).take a).count true := by
  unfold ps; rw [List.take_add, List.count_append]

theorem ps_mono {S : List Bool} {t t' : Nat} (h : t ≤ t') : ps S t ≤ ps S t' := by
  obtain ⟨a, rfl⟩ : ∃ a, t' = t + a := ⟨t' - t, by omega⟩
  rw [ps_add]; omega

theorem ps_leapt (l : List (Int × Int)) (S : List Bool) (k : Nat) : ps S (k + 1 + (arAt l k).toNat) = ps S (k + 1) + leaptN l S k := ps_add _ _ _

theorem ps_min {S : List Bool} {n : Nat} (hS : S.length = n) (t : Nat) : ps S (min t n) = ps S t := by
  rcases Nat.le_total t n with h | h
  · rw [Nat.min_eq_left h]
  · rw [Nat.min_eq_right h]; unfold ps
    rw [List.take_of_length_le (by omega), List.take_of_length_le (by omega)]

theorem ps_inj {S : List Bool} {t t' : Nat} (h : S.getD t false = true) (h' : S.getD t' false = true) (he : ps S t = ps S t') : t = t' := by
  have h1 := (ps_yes h).2
  have h2 := (ps_yes h').2
  rcases Nat.lt_trichotomy t t' with q | q | q
  · have := ps_mono (S := S) (show t + 1 ≤ t' by omega); omega
  · exact q
  · have := ps_mono (S := S) (show t' + 1 ≤ t by omega); omega

theorem ps_sur {S : List Bool} {u : Nat} : ∀ n, n ≤ S.length → u < ps S n → ∃ t, t < n ∧ S.getD t false = true ∧ ps S t = u
  | 0, _, h => by rw [ps_zero] at h; omega
  | n + 1, hn, h => by
    by_cases h1 : u < ps S n
    · obtain ⟨t, a, b, c⟩ := ps_sur n (by omega) h1
      exact ⟨t, by omega, b, c⟩
    · rw [ps_succ (by omega)] at h
      split at h
      · rename_i hb
        exact ⟨n, by omega, hb, by omega⟩
      · omega

theorem tmTo_len {l : List (Int × Int)} {S : List Bool} : ∀ k, k ≤ S.length → (tmTo l S k).length = ps S k
  | 0, _ => by rw [ps_zero]; rfl
  | k + 1, hk => by
    have ih := tmTo_len (l := l) (S := S) k (by omega)
    rw [ps_succ (by omega)]
    unfold tmTo
    split
    · rw [List.length_append, ih]; rfl
    · exact ih

theorem tmTo_at {l : List (Int × Int)} {S : List Bool} {t : Nat} (h : S.getD t false = true) : ∀ k, t < k → k ≤ S.length → (tmTo l S k).getD (ps S t) (0, 0) = tmI l S t
  | 0, h0, _ => by omega
  | k + 1, h0, hk => by
    have hlen : (tmTo l S k).length = ps S k := tmTo_len (l := l) (S := S) k (by omega)
    by_cases e : t = k
    · subst e
      unfold tmTo
      rw [if_pos h, List.getD_eq_getElem?_getD, ← hlen, List.getElem?_append_right (Nat.le_refl _), Nat.sub_self]
      rfl
    · have ih := tmTo_at (l := l) h k (by omega) (by omega)
      have hlt : ps S t < (tmTo l S k).length := by
        rw [hlen]
        have := (ps_yes h).2
        have := ps_mono (S := S) (show t + 1 ≤ k by omega)
        omega
      unfold tmTo
      split
      · rw [List.getD_eq_getElem?_getD, List.getElem?_append_left hlt, ← List.getD_eq_getElem?_getD]; exact ih
      · exact ih

/-! ### The trimmed one's ways -/

section
variable {l : List (Int × Int)} {D : List Int} {mx em : Int} {u0 u1 : Bool} {S : List Bool}

theorem st_out {k : Nat} (h : S.getD k false = stCond l D S k) (h1 : S.getD k false = false) (h2 : D.getD k 0 ≠ -1) : opAt l k = 16 ∧ leaptN l S k = 0 := by
  rw [h] at h1
  unfold stCond at h1
  simp only [Bool.and_eq_false_iff, Bool.or_eq_false_iff, decide_eq_false_iff_not] at h1
  rcases h1 with h1 | ⟨h1, h3⟩
  · exact absurd h2 h1
  · exact ⟨by omega, by omega⟩

theorem st_in {k : Nat} (h : S.getD k false = stCond l D S k) (h1 : S.getD k false = true) : D.getD k 0 ≠ -1 ∧ (opAt l k = 16 → 0 < leaptN l S k) := by
  rw [h] at h1
  unfold stCond at h1
  simp only [Bool.and_eq_true, Bool.or_eq_true, decide_eq_true_eq] at h1
  exact ⟨h1.1, fun e => h1.2.resolve_left (fun q => q e)⟩

/-- What stands where t has gone. -/
theorem trm_kinds (hS : S.length = l.length) {t : Nat} (h : S.getD t false = stCond l D S t) (ht : S.getD t false = true) :
    (opAt l t = 15 ∧ leaptN l S t = 0 ∧ opAt (tmTo l S l.length) (ps S t) = 13 ∧ arAt (tmTo l S l.length) (ps S t) = 0) ∨
    (opAt l t = 15 ∧ 0 < leaptN l S t ∧ opAt (tmTo l S l.length) (ps S t) = 15 ∧ arAt (tmTo l S l.length) (ps S t) = leaptN l S t) ∨
    (opAt l t = 16 ∧ 0 < leaptN l S t ∧ opAt (tmTo l S l.length) (ps S t) = 16 ∧ arAt (tmTo l S l.length) (ps S t) = leaptN l S t) ∨
    (opAt l t ≠ 15 ∧ opAt l t ≠ 16 ∧ opAt (tmTo l S l.length) (ps S t) = opAt l t ∧ arAt (tmTo l S l.length) (ps S t) = arAt l t) := by
  have hat := tmTo_at (l := l) ht l.length (by rw [← hS]; exact (ps_yes ht).1) (by omega)
  have ho : opAt (tmTo l S l.length) (ps S t) = (tmI l S t).1 := by unfold opAt; rw [hat]
  have ha : arAt (tmTo l S l.length) (ps S t) = (tmI l S t).2 := by unfold arAt; rw [hat]
  rw [ho, ha]
  by_cases h15 : opAt l t = 15
  · by_cases h0 : leaptN l S t = 0
    · left; unfold tmI jumpI; rw [if_pos (.inl h15), if_pos h0]; exact ⟨h15, h0, rfl, rfl⟩
    · right; left; unfold tmI jumpI; rw [if_pos (.inl h15), if_neg h0]; exact ⟨h15, by omega, h15, rfl⟩
  · by_cases h16 : opAt l t = 16
    · have hp := (st_in h ht).2 h16
      right; right; left; unfold tmI jumpI; rw [if_pos (.inr h16), if_neg (by omega)]; exact ⟨h16, hp, h16, rfl⟩
    · right; right; right; unfold tmI; rw [if_neg (by omega)]; exact ⟨h15, h16, rfl, rfl⟩

theorem trm_same (hS : S.length = l.length) {t : Nat} (h : S.getD t false = stCond l D S t) (ht : S.getD t false = true) :
    tkI (opAt (tmTo l S l.length) (ps S t)) = tkI (opAt l t) ∧ (∀ d, leftI (opAt (tmTo l S l.length) (ps S t)) d = leftI (opAt l t) d) ∧ emI (opAt (tmTo l S l.length) (ps S t)) = emI (opAt l t) := by
  rcases trm_kinds hS h ht with ⟨a, _, b, _⟩ | ⟨a, _, b, _⟩ | ⟨a, _, b, _⟩ | ⟨_, _, b, _⟩
  · rw [a, b]; exact ⟨rfl, fun d => rfl, rfl⟩
  · rw [a, b]; exact ⟨rfl, fun d => rfl, rfl⟩
  · rw [a, b]; exact ⟨rfl, fun d => rfl, rfl⟩
  · rw [b]; exact ⟨rfl, fun d => rfl, rfl⟩

theorem trm_fwd (hS : S.length = l.length) {t x : Nat} (h : S.getD t false = stCond l D S t) (ht : S.getD t false = true) (hx : x ∈ sucL l t) : ps S x ∈ sucL (tmTo l S l.length) (ps S t) := by
  have h1 := (ps_yes ht).2
  have h2 := ps_leapt l S t
  unfold sucL nextN at hx ⊢
  rcases trm_kinds hS h ht with ⟨a, z, b, c⟩ | ⟨a, z, b, c⟩ | ⟨a, z, b, c⟩ | ⟨a, z, b, c⟩
  · rw [a] at hx
    rw [b]
    simp at hx ⊢
    rcases hx with rfl | rfl <;> omega
  · rw [a] at hx
    rw [b, c]
    simp at hx ⊢
    rcases hx with rfl | rfl <;> omega
  · rw [a] at hx
    rw [b, c]
    simp at hx ⊢
    subst hx
    omega
  · rw [b]
    rw [if_neg a, if_neg z] at hx ⊢
    split at hx
    · simp at hx
    · rename_i h0
      rw [if_neg h0]
      simp at hx ⊢
      subst hx
      omega

theorem trm_bwd (hS : S.length = l.length) {t y : Nat} (h : S.getD t false = stCond l D S t) (ht : S.getD t false = true) (hy : y ∈ sucL (tmTo l S l.length) (ps S t)) : ∃ x, x ∈ sucL l t ∧ ps S x = y := by
  have h1 := (ps_yes ht).2
  have h2 := ps_leapt l S t
  unfold sucL nextN at hy ⊢
  rcases trm_kinds hS h ht with ⟨a, z, b, c⟩ | ⟨a, z, b, c⟩ | ⟨a, z, b, c⟩ | ⟨a, z, b, c⟩
  · rw [b] at hy
    rw [a]
    simp at hy ⊢
    left; omega
  · rw [b, c] at hy
    rw [a]
    simp at hy ⊢
    rcases hy with rfl | rfl
    · left; omega
    · right; omega
  · rw [b, c] at hy
    rw [a]
    simp at hy ⊢
    omega
  · rw [b, if_neg a, if_neg z] at hy
    rw [if_neg a, if_neg z]
    split at hy
    · simp at hy
    · rename_i h0
      rw [if_neg h0]
      simp at hy ⊢
      omega

theorem rch_trm (hS : S.length = l.length) (hst : ∀ k, k < l.length → S.getD k false = stCond l D S k) (sem : Sem l D mx em u0 u1) {t : Nat} {d e : Int} (r : Rch l t d e) : Rch (tmTo l S l.length) (ps S t) d e := by
  have hlen := tmTo_len (l := l) (S := S) l.length (by omega)
  induction r with
  | start => rw [ps_zero]; exact .start
  | @step s d e t r f m ih =>
    have hs := f.lt
    have hD := ((sem.ok _ _ _ r).2.2.2.2.2.2 hs).1
    have h0 := (sem.ok _ _ _ r).1
    rw [ps_min hS]
    cases hb : S.getD s false with
    | false =>
      obtain ⟨o16, lp⟩ := st_out (hst s hs) hb (by omega)
      have h1 := ps_no (by omega) hb
      have h2 := ps_leapt l S s
      have ht : t = s + 1 + (arAt l s).toNat := by
        unfold sucL nextN at m
        rw [o16] at m
        simpa using m
      rw [show ps S t = ps S s by rw [ht]; omega, o16, show leftI 16 d = d by unfold leftI tkI lvI; simp, show emI 16 = 0 from rfl, Int.add_zero]
      exact ih
    | true =>
      obtain ⟨k1, k2, k3⟩ := trm_same hS (hst s hs) hb
      have hlt : ps S s < (tmTo l S l.length).length := by
        rw [hlen]
        have := (ps_yes hb).2
        have := ps_mono (S := S) (show s + 1 ≤ l.length by omega)
        omega
      have := Rch.step ih ⟨hlt, f.lo, f.hi, f.em, by rw [k1]; exact f.tk⟩ (trm_fwd hS (hst s hs) hb m)
      rw [k2, k3, hlen, ← ps_min hS t, Nat.min_eq_left (ps_mono (Nat.min_le_right _ _)), ps_min hS] at this
      exact this

/-- .. on to the next one that stays, or to the end. -/
theorem settle (hS : S.length = l.length) (hst : ∀ k, k < l.length → S.getD k false = stCond l D S k) (sem : Sem l D mx em u0 u1) : ∀ (n t : Nat) (d e : Int), l.length - t ≤ n → Rch l t d e → ∃ t', Rch l t' d e ∧ ps S t' = ps S t ∧ (t' = l.length ∨ S.getD t' false = true)
  | 0, t, d, e, hn, r => ⟨t, r, rfl, .inl (by have := rch_le r; omega)⟩
  | n + 1, t, d, e, hn, r => by
    by_cases he : t = l.length
    · exact ⟨t, r, rfl, .inl he⟩
    · have hle := rch_le r
      have hs : t < l.length := by omega
      obtain ⟨g1, g2, _, g4, _, _, g5⟩ := sem.ok _ _ _ r
      obtain ⟨g6, g7⟩ := g5 hs
      cases hb : S.getD t false with
      | true => exact ⟨t, r, rfl, .inr hb⟩
      | false =>
        obtain ⟨o16, lp⟩ := st_out (hst t hs) hb (by omega)
        have h1 := ps_no (by omega) hb
        have h2 := ps_leapt l S t
        have r2 := Rch.step r ⟨hs, g1, g2, g4, g7⟩ (t := t + 1 + (arAt l t).toNat) (by unfold sucL nextN; rw [o16]; simp)
        rw [o16, show leftI 16 d = d by unfold leftI tkI lvI; simp, show emI 16 = 0 from rfl, Int.add_zero] at r2
        obtain ⟨t', a, b, c⟩ := settle hS hst sem n _ d e (by omega) r2
        exact ⟨t', a, by rw [b, ps_min hS]; omega, c⟩

theorem trm_rch (hS : S.length = l.length) (hst : ∀ k, k < l.length → S.getD k false = stCond l D S k) (sem : Sem l D mx em u0 u1) {u : Nat} {d e : Int} (r : Rch (tmTo l S l.length) u d e) : ∃ t, Rch l t d e ∧ ps S t = u ∧ (t = l.length ∨ S.getD t false = true) := by
  have hlen := tmTo_len (l := l) (S := S) l.length (by omega)
  induction r with
  | start =>
    obtain ⟨t, a, b, c⟩ := settle hS hst sem l.length 0 0 0 (by omega) .start
    exact ⟨t, a, by rw [b, ps_zero], c⟩
  | @step s d e y r f m ih =>
    obtain ⟨t, a, b, c⟩ := ih
    have hlt := f.lt
    subst b
    rw [hlen] at hlt ⊢
    rcases c with c | c
    · subst c; omega
    · have hs : t < l.length := by rw [← hS]; exact (ps_yes c).1
      obtain ⟨k1, k2, k3⟩ := trm_same hS (hst t hs) c
      obtain ⟨x, x1, x2⟩ := trm_bwd hS (hst t hs) c m
      obtain ⟨g1, g2, _, g4, _, _, g5⟩ := sem.ok _ _ _ a
      have r2 := Rch.step a ⟨hs, g1, g2, g4, (g5 hs).2⟩ x1
      obtain ⟨t', a', b', c'⟩ := settle hS hst sem l.length _ _ _ (by omega) r2
      rw [k2, k3]
      refine ⟨t', a', ?_, c'⟩
      rw [b', ps_min hS, x2]
      have h3 := ps_mono (S := S) (Nat.min_le_right x l.length)
      rw [ps_min hS, x2] at h3
      omega

theorem trm_good (hS : S.length = l.length) (hst : ∀ k, k < l.length → S.getD k false = stCond l D S k) (sem : Sem l D mx em u0 u1) : Good (tmTo l S l.length) := by
  have hlen := tmTo_len (l := l) (S := S) l.length (by omega)
  refine ⟨fun u d e r => ?_, fun u d e d' e' r r' hu => ?_⟩
  · obtain ⟨t, a, b, c⟩ := trm_rch hS hst sem r
    obtain ⟨g1, g2, _, g4, _, _, g5⟩ := sem.ok _ _ _ a
    refine ⟨g1, g2, g4, fun hu => ?_⟩
    subst b
    rcases c with c | c
    · subst c; omega
    · have hs : t < l.length := by rw [← hS]; exact (ps_yes c).1
      rw [(trm_same hS (hst t hs) c).1]
      exact (g5 hs).2
  · obtain ⟨t, a, b, c⟩ := trm_rch hS hst sem r
    obtain ⟨t', a', b', c'⟩ := trm_rch hS hst sem r'
    subst b
    rcases c with c | c
    · subst c; omega
    · rcases c' with c' | c'
      · subst c'; omega
      · obtain rfl := ps_inj c' c b'
        exact sem.good.one _ _ _ _ _ a a' (by rw [← hS]; exact (ps_yes c).1)

theorem trm_fits (hS : S.length = l.length) (hst : ∀ k, k < l.length → S.getD k false = stCond l D S k) (hf : fitsL l = true) : fitsL (tmTo l S l.length) = true := by
  have hlen := tmTo_len (l := l) (S := S) l.length (by omega)
  have h24 := ((fitsL_iff l).1 hf).1
  have hle := tmTo_le l S l.length
  rw [fitsL_iff]
  refine ⟨by omega, ?_⟩
  rw [List.all_eq_true]
  intro z hz
  obtain ⟨u, hu, rfl⟩ := List.mem_iff_getElem.1 hz
  obtain ⟨t, t1, t2, t3⟩ := ps_sur (S := S) l.length (by omega) (by rw [← hlen]; exact hu)
  obtain ⟨o, a, hoa⟩ := pair_of (p := l.getD t (0, 0))
  have hr := ins_right hf t1 hoa
  have e1 : opAt l t = o := by unfold opAt; rw [hoa]
  have e2 : arAt l t = a := by unfold arAt; rw [hoa]
  have hg : (tmTo l S l.length)[u] = (opAt (tmTo l S l.length) u, arAt (tmTo l S l.length) u) := by
    unfold opAt arAt
    rw [List.getD_eq_getElem?_getD, List.getElem?_eq_getElem hu]; rfl
  rw [hg, ← t3]
  have hlp : (leaptN l S t : Nat) ≤ a.toNat := by
    unfold leaptN; rw [e2]
    exact count_lim _ _
  rcases trm_kinds hS (hst t t1) t2 with ⟨x, z, b, c⟩ | ⟨x, z, b, c⟩ | ⟨x, z, b, c⟩ | ⟨x, z, b, c⟩
  · rw [b, c]; rfl
  · rw [b, c]
    rw [e1] at x; subst x
    unfold rightI at hr ⊢
    simp only [Bool.and_eq_true, decide_eq_true_eq] at hr ⊢
    have l15 : loI 15 = 1 := by decide
    have h15 : hiI 15 = 24 := by decide
    rw [l15, h15] at hr ⊢
    omega
  · rw [b, c]
    rw [e1] at x; subst x
    unfold rightI at hr ⊢
    simp only [Bool.and_eq_true, decide_eq_true_eq] at hr ⊢
    have l16 : loI 16 = 1 := by decide
    have h16 : hiI 16 = 24 := by decide
    rw [l16, h16] at hr ⊢
    omega
  · rw [b, c, e1, e2]; exact hr

end

/-- Trimmed again it is the same, if all is come to, and no jump leads over the end. -/
theorem trim_again {q : List (Int × Int)} {D' : List Int} (hD : ∀ i, i < q.length → 0 ≤ D'.getD i 0)
    (hroom : ∀ u, u < q.length → opAt q u = 15 ∨ opAt q u = 16 → 0 < (arAt q u).toNat ∧ u + 1 + (arAt q u).toNat ≤ q.length ∧ arAt q u = ((arAt q u).toNat : Int)) :
    tmTo q (stTo q D' q.length) q.length = q := by
  have hS' : (stTo q D' q.length).length = q.length := stTo_len _ _ _
  have hst' := fun k (hk : k < q.length) => stTo_at q D' hk
  obtain ⟨S', hSS⟩ : ∃ S', stTo q D' q.length = S' := ⟨_, rfl⟩
  rw [hSS] at hS' hst' ⊢
  clear hSS
  have hall : ∀ n u, q.length - u ≤ n → u < q.length → S'.getD u false = true ∧ (opAt q u = 15 ∨ opAt q u = 16 → leaptN q S' u = (arAt q u).toNat) := by
    intro n
    induction n with
    | zero => intro u h1 h2; omega
    | succ n ih =>
      intro u h1 h2
      have hlp : opAt q u = 15 ∨ opAt q u = 16 → leaptN q S' u = (arAt q u).toNat := by
        intro ho
        obtain ⟨a1, a2, a3⟩ := hroom u h2 ho
        unfold leaptN
        have hlen2 : ((S'.drop (u + 1)).take (arAt q u).toNat).length = (arAt q u).toNat := by
          rw [List.length_take, List.length_drop]; omega
        refine (List.count_eq_length.2 ?_).trans hlen2
        · intro b hb
          obtain ⟨i, hi, rfl⟩ := List.mem_iff_getElem.1 hb
          rw [List.getElem_take, List.getElem_drop]
          have hi2 : i < (arAt q u).toNat := by omega
          have := (ih (u + 1 + i) (by omega) (by omega)).1
          rw [List.getD_eq_getElem?_getD, List.getElem?_eq_getElem (by omega)] at this
          exact this.symm
      refine ⟨?_, hlp⟩
      rw [hst' u h2]
      unfold stCond
      have hd := hD u h2
      rw [decide_eq_true (by omega)]
      by_cases h16 : opAt q u = 16
      · have := hroom u h2 (.inr h16)
        have h4 := hlp (.inr h16)
        rw [decide_eq_true (show 0 < leaptN q S' u by omega)]; simp
      · rw [decide_eq_true h16]; rfl
  have hgo : ∀ k, k ≤ q.length → tmTo q S' k = q.take k := by
    intro k
    induction k with
    | zero => intro _; rfl
    | succ k ih =>
      intro hk
      obtain ⟨b1, b2⟩ := hall _ k (Nat.le_refl _) (by omega)
      unfold tmTo
      rw [if_pos b1, ih (by omega), List.take_succ_eq_append_getElem (by omega)]
      congr 2
      have hg : q[k] = (opAt q k, arAt q k) := by
        unfold opAt arAt
        rw [List.getD_eq_getElem?_getD, List.getElem?_eq_getElem (by omega)]; rfl
      unfold tmI
      split
      · rename_i ho
        obtain ⟨a1, a2, a3⟩ := hroom k (by omega) ho
        unfold jumpI
        rw [b2 ho, if_neg (by omega), ← a3, hg]
      · rw [hg]; unfold opAt arAt; rfl
  rw [hgo _ (Nat.le_refl _), List.take_length]

/-- The trimmed program: safe, the same emits and cells; all of it is come to; trimmed again it is the same. -/
theorem chk_trim {l : List (Int × Int)} {s : CkS} (h : chk l = some s) :
    ∃ s', chk (trimL l s) = some s' ∧ s'.em = s.em ∧ s'.u0 = s.u0 ∧ s'.u1 = s.u1 ∧ (∀ i, i < (trimL l s).length → 0 ≤ s'.D.getD i 0) ∧ trimL (trimL l s) s' = trimL l s := by
  obtain ⟨hf, sem⟩ := chk_some h
  have hS : (stTo l s.D l.length).length = l.length := stTo_len _ _ _
  have hst := fun k (hk : k < l.length) => stTo_at l s.D hk
  show ∃ s', chk (tmTo l (stTo l s.D l.length) l.length) = some s' ∧ s'.em = s.em ∧ s'.u0 = s.u0 ∧ s'.u1 = s.u1 ∧ (∀ i, i < (tmTo l (stTo l s.D l.length) l.length).length → 0 ≤ s'.D.getD i 0) ∧ trimL (tmTo l (stTo l s.D l.length) l.length) s' = tmTo l (stTo l s.D l.length) l.length
  obtain ⟨S, hSS⟩ : ∃ S, stTo l s.D l.length = S := ⟨_, rfl⟩
  rw [hSS] at hS hst ⊢
  clear hSS
  have hlen := tmTo_len (l := l) (S := S) l.length (by omega)
  have hgood := trm_good hS hst sem
  have hfit := trm_fits hS hst hf
  obtain ⟨s', hs'⟩ := chk_of_good hfit hgood
  have sem' := (chk_some hs').2
  have huse : ∀ b : Int, (∃ t d e, Rch (tmTo l S l.length) t d e ∧ t < (tmTo l S l.length).length ∧ (opAt (tmTo l S l.length) t = 4 ∨ opAt (tmTo l S l.length) t = 5) ∧ arAt (tmTo l S l.length) t = b) ↔ (∃ t d e, Rch l t d e ∧ t < l.length ∧ (opAt l t = 4 ∨ opAt l t = 5) ∧ arAt l t = b) := by
    intro b
    constructor
    · rintro ⟨u, d, e, r, hu, ho, ha⟩
      obtain ⟨t, t1, t2, t3⟩ := trm_rch hS hst sem r
      subst t2
      rcases t3 with t3 | t3
      · subst t3; omega
      · have ht : t < l.length := by rw [← hS]; exact (ps_yes t3).1
        rcases trm_kinds hS (hst t ht) t3 with ⟨x, z, y, c⟩ | ⟨x, z, y, c⟩ | ⟨x, z, y, c⟩ | ⟨x, z, y, c⟩
        · omega
        · omega
        · omega
        · exact ⟨t, d, e, t1, ht, by rw [← y]; exact ho, by rw [← c]; exact ha⟩
    · rintro ⟨t, d, e, r, ht, ho, ha⟩
      have hb : S.getD t false = true := by
        cases hb : S.getD t false with
        | true => rfl
        | false =>
          have g := sem.ok _ _ _ r
          have := (g.2.2.2.2.2.2 ht).1
          have := (st_out (hst t ht) hb (by omega)).1
          omega
      have hlt : ps S t < (tmTo l S l.length).length := by
        rw [hlen]
        have := (ps_yes hb).2
        have := ps_mono (S := S) (show t + 1 ≤ l.length by omega)
        omega
      refine ⟨ps S t, d, e, rch_trm hS hst sem r, hlt, ?_⟩
      rcases trm_kinds hS (hst t ht) hb with ⟨x, z, y, c⟩ | ⟨x, z, y, c⟩ | ⟨x, z, y, c⟩ | ⟨x, z, y, c⟩
      · omega
      · omega
      · omega
      · rw [y, c]; exact ⟨ho, ha⟩
  have hD : ∀ i, i < (tmTo l S l.length).length → 0 ≤ s'.D.getD i 0 := by
    intro i hi
    obtain ⟨t, t1, t2, t3⟩ := ps_sur (S := S) l.length (by omega) (by rw [← hlen]; exact hi)
    rcases sem.un t t1 with q | ⟨e, q⟩
    · exact absurd q (st_in (hst t t1) t2).1
    · have r := rch_trm hS hst sem q
      rw [t3] at r
      have g := sem'.ok _ _ _ r
      have := (g.2.2.2.2.2.2 hi).1
      omega
  refine ⟨s', hs', ?_, ?_, ?_, hD, ?_⟩
  · obtain ⟨t, d, r⟩ := sem.eme
    obtain ⟨t', d', r'⟩ := sem'.eme
    have g1 := (sem'.ok _ _ _ (rch_trm hS hst sem r)).2.2.2.2.2.1
    obtain ⟨t2, a2, _⟩ := trm_rch hS hst sem r'
    have g2 := (sem.ok _ _ _ a2).2.2.2.2.2.1
    omega
  · rw [Bool.eq_iff_iff, sem'.u0e, sem.u0e]; exact huse 0
  · rw [Bool.eq_iff_iff, sem'.u1e, sem.u1e]; exact huse 1
  · exact trim_again hD (by
    -- a jump leads over no more than there are
      intro u hu ho
      obtain ⟨t, t1, t2, t3⟩ := ps_sur (S := S) l.length (by omega) (by rw [← hlen]; exact hu)
      subst t3
      have h1 := (ps_yes t2).2
      have h2 := ps_leapt l S t
      have h3 := ps_mono (S := S) (Nat.min_le_right (t + 1 + (arAt l t).toNat) l.length)
      rw [ps_min hS] at h3
      have hjump : opAt l t = 15 ∨ opAt l t = 16 := by
        rcases trm_kinds hS (hst t t1) t2 with ⟨x, z, y, c⟩ | ⟨x, z, y, c⟩ | ⟨x, z, y, c⟩ | ⟨x, z, y, c⟩ <;> omega
      rcases trm_kinds hS (hst t t1) t2 with ⟨x, z, y, c⟩ | ⟨x, z, y, c⟩ | ⟨x, z, y, c⟩ | ⟨x, z, y, c⟩
      · omega
      · rw [c, hlen]; exact ⟨by omega, by omega, by omega⟩
      · rw [c, hlen]; exact ⟨by omega, by omega, by omega⟩
      · omega)

end Go.Proofs.YtfohdoahddommaaDoor
