/- Layer 5, check: programs one behind the other: plain facts. -/
import Derived.Test.YtnhibimpolamoaaChkN
import Derived.Test.YtnhibimpolamoaaRefS
namespace Go.Proofs.Ytnhibimpolamoaa
open Go.RowKit Go.Lib
set_option linter.unusedVariables false

/-- What an operation adds to the stack. -/
def addI (o : Int) : Int := lvI o - tkI o

/-- The stack behind the first k, and what was put out. -/
def depF (p : List (Int × Int)) (k : Nat) : Int := ((p.take k).map fun x => addI x.1).sum
def emiF (p : List (Int × Int)) (k : Nat) : Int := ((p.take k).map fun x => emI x.1).sum

theorem take_one {p : List (Int × Int)} {k : Nat} (h : k < p.length) : p.take (k + 1) = p.take k ++ [p.getD k (0, 0)] := by
  rw [List.take_succ_eq_append_getElem h, List.getD_eq_getElem?_getD, List.getElem?_eq_getElem h]; rfl

theorem depF_succ {p : List (Int × Int)} {k : Nat} (h : k < p.length) : depF p (k + 1) = depF p k + addI (opAt p k) := by
  unfold depF opAt; rw [take_one h, List.map_append, List.sum_append]; simp
theorem emiF_succ {p : List (Int × Int)} {k : Nat} (h : k < p.length) : emiF p (k + 1) = emiF p k + emI (opAt p k) := by
  unfold emiF opAt; rw [take_one h, List.map_append, List.sum_append]; simp

/-- Neither jumps nor HALT. -/
def Straight (p : List (Int × Int)) : Prop := ∀ t, t < p.length → opAt p t ≠ 0 ∧ opAt p t ≠ 15 ∧ opAt p t ≠ 16

theorem suc_straight {p : List (Int × Int)} (h : Straight p) {t : Nat} (ht : t < p.length) : sucL p t = [t + 1] := by
  obtain ⟨h0, h15, h16⟩ := h t ht
  unfold sucL nextN
  rw [if_neg h0, if_neg h15, if_neg h16]

theorem rch_straight {p : List (Int × Int)} (h : Straight p) {t : Nat} {d e : Int} (r : Rch p t d e) : d = depF p t ∧ e = emiF p t := by
  induction r with
  | start => exact ⟨rfl, rfl⟩
  | @step s d e t r f m ih =>
    obtain ⟨h1, h2⟩ := ih
    rw [suc_straight h f.lt] at m
    simp at m
    subst m
    have hl := f.lt
    rw [Nat.min_eq_left (by omega), depF_succ f.lt, emiF_succ f.lt, ← h1, ← h2]
    exact ⟨by unfold leftI addI; omega, rfl⟩

theorem straight_rch {p : List (Int × Int)} (h : Straight p) (hg : Good p) : ∀ t, t ≤ p.length → Rch p t (depF p t) (emiF p t)
  | 0, _ => .start
  | t + 1, ht => by
    have r := straight_rch h hg t (by omega)
    obtain ⟨g1, g2, g3, g4⟩ := hg.fine _ _ _ r
    have := Rch.step r ⟨by omega, g1, g2, g3, g4 (by omega)⟩ (t := t + 1) (by rw [suc_straight h (by omega)]; simp)
    rw [Nat.min_eq_left (by omega)] at this
    rw [depF_succ (by omega), emiF_succ (by omega), show depF p t + addI (opAt p t) = leftI (opAt p t) (depF p t) by unfold leftI addI; omega]
    exact this

theorem emiF_mono {p : List (Int × Int)} : ∀ a b, a ≤ b → b ≤ p.length → emiF p a ≤ emiF p b := by
  intro a b hab
  induction b with
  | zero => intro _; obtain rfl : a = 0 := by omega
            exact Int.le_refl _
  | succ b ih =>
    intro hb
    by_cases e : a = b + 1
    · subst e; exact Int.le_refl _
    · have := ih (by omega) (by omega)
      rw [emiF_succ (by omega)]
      have := em_lo (opAt p b)
      omega

theorem opAt_left {p q : List (Int × Int)} {t : Nat} (h : t < p.length) : opAt (p ++ q) t = opAt p t := by
  unfold opAt; rw [List.getD_eq_getElem?_getD, List.getElem?_append_left h, ← List.getD_eq_getElem?_getD]
theorem opAt_right {p q : List (Int × Int)} {t : Nat} (h : p.length ≤ t) : opAt (p ++ q) t = opAt q (t - p.length) := by
  unfold opAt; rw [List.getD_eq_getElem?_getD, List.getElem?_append_right h, ← List.getD_eq_getElem?_getD]
theorem arAt_right {p q : List (Int × Int)} {t : Nat} (h : p.length ≤ t) : arAt (p ++ q) t = arAt q (t - p.length) := by
  unfold arAt; rw [List.getD_eq_getElem?_getD, List.getElem?_append_right h, ← List.getD_eq_getElem?_getD]
theorem suc_left {p q : List (Int × Int)} (h : Straight p) {t : Nat} (ht : t < p.length) : sucL (p ++ q) t = [t + 1] := by
  obtain ⟨h0, h15, h16⟩ := h t ht
  unfold sucL nextN
  rw [opAt_left ht, if_neg h0, if_neg h15, if_neg h16]

theorem suc_right {p q : List (Int × Int)} {s t : Nat} (hs : p.length ≤ s) : t ∈ sucL (p ++ q) s ↔ ∃ t', t = p.length + t' ∧ t' ∈ sucL q (s - p.length) := by
  unfold sucL nextN
  rw [opAt_right hs, arAt_right hs]
  obtain ⟨k, rfl⟩ : ∃ k, s = p.length + k := ⟨s - p.length, by omega⟩
  rw [Nat.add_sub_cancel_left]
  split
  · simp
  · split
    · simp only [List.mem_cons, List.not_mem_nil, or_false]
      constructor
      · rintro (rfl | rfl)
        · exact ⟨k + 1, by omega, .inl rfl⟩
        · exact ⟨k + 1 + (arAt q k).toNat, by omega, .inr rfl⟩
      · rintro ⟨t', rfl, rfl | rfl⟩
        · left; omega
        · right; omega
    · split
      · simp only [List.mem_cons, List.not_mem_nil, or_false]
        constructor
        · rintro rfl; exact ⟨_, by omega, rfl⟩
        · rintro ⟨t', rfl, rfl⟩; omega
      · simp only [List.mem_cons, List.not_mem_nil, or_false]
        constructor
        · rintro rfl; exact ⟨_, by omega, rfl⟩
        · rintro ⟨t', rfl, rfl⟩; omega

section
variable {p q : List (Int × Int)} {A : Int}

/-- What is come to in both. -/
theorem rch_both (hs : Straight p) (hg : Good p) (hd : depF p p.length = 0) {t : Nat} {d e : Int} (r : Rch (p ++ q) t d e) :
    (t < p.length ∧ Rch p t d e) ∨ (p.length ≤ t ∧ Rch q (t - p.length) d (e - emiF p p.length)) := by
  have conv : ∀ t d e, t ≤ p.length → Rch p t d e → (t < p.length ∧ Rch p t d e) ∨ (p.length ≤ t ∧ Rch q (t - p.length) d (e - emiF p p.length)) := by
    intro t d e ht r
    by_cases h : t < p.length
    · exact .inl ⟨h, r⟩
    · obtain rfl : t = p.length := by omega
      obtain ⟨h1, h2⟩ := rch_straight hs r
      refine .inr ⟨Nat.le_refl _, ?_⟩
      rw [Nat.sub_self, h1, hd, h2, Int.sub_self]
      exact .start
  induction r with
  | start => exact conv 0 0 0 (Nat.zero_le _) .start
  | @step s d e t r f m ih =>
    rcases ih with ⟨h1, h2⟩ | ⟨h1, h2⟩
    · rw [suc_left hs h1] at m
      simp at m
      subst m
      have htk := f.tk
      rw [opAt_left h1] at htk ⊢
      have := Rch.step h2 ⟨h1, f.lo, f.hi, f.em, htk⟩ (t := s + 1) (by rw [suc_straight hs h1]; simp)
      rw [Nat.min_eq_left (by omega)] at this
      rw [Nat.min_eq_left (by have := f.lt; omega)]
      exact conv _ _ _ (by omega) this
    · obtain ⟨t', rfl, ht'⟩ := (suc_right h1).1 m
      have hl := f.lt
      have htk := f.tk
      rw [List.length_append] at hl ⊢
      rw [opAt_right h1] at htk ⊢
      have h0 : 0 ≤ emiF p p.length := emiF_mono 0 p.length (Nat.zero_le _) (Nat.le_refl _)
      have := Rch.step h2 ⟨by omega, f.lo, f.hi, by have := f.em; omega, htk⟩ ht'
      refine .inr ⟨by omega, ?_⟩
      rw [show min (p.length + t') (p.length + q.length) - p.length = min t' q.length by omega, show e + emI (opAt q (s - p.length)) - emiF p p.length = e - emiF p p.length + emI (opAt q (s - p.length)) by omega]
      exact this

theorem rch_first (hs : Straight p) {t : Nat} {d e : Int} (r : Rch p t d e) : Rch (p ++ q) t d e := by
  induction r with
  | start => exact .start
  | @step s d e t r f m ih =>
    rw [suc_straight hs f.lt] at m
    simp at m
    subst m
    have hl := f.lt
    have := Rch.step ih ⟨by rw [List.length_append]; omega, f.lo, f.hi, f.em, by rw [opAt_left f.lt]; exact f.tk⟩ (t := s + 1) (by rw [suc_left hs f.lt]; simp)
    rw [Nat.min_eq_left (by rw [List.length_append]; omega), opAt_left f.lt] at this
    rw [Nat.min_eq_left (by omega)]
    exact this

theorem rch_second (hs : Straight p) (hg : Good p) (hd : depF p p.length = 0) (hem : ∀ t d e, Rch q t d e → e + emiF p p.length ≤ 4) {t : Nat} {d e : Int} (r : Rch q t d e) : Rch (p ++ q) (p.length + t) d (e + emiF p p.length) := by
  induction r with
  | start =>
    have := rch_first (q := q) hs (straight_rch hs hg p.length (Nat.le_refl _))
    rw [hd] at this
    rw [Nat.add_zero, Int.zero_add]
    exact this
  | @step s d e t r f m ih =>
    have hl := f.lt
    have hop : opAt (p ++ q) (p.length + s) = opAt q s := by rw [opAt_right (by omega), Nat.add_sub_cancel_left]
    have := Rch.step ih ⟨by rw [List.length_append]; omega, f.lo, f.hi, hem _ _ _ r, by rw [hop]; exact f.tk⟩ (t := p.length + t) ((suc_right (by omega)).2 ⟨t, rfl, by rw [Nat.add_sub_cancel_left]; exact m⟩)
    rw [List.length_append, hop] at this
    rw [show p.length + min t q.length = min (p.length + t) (p.length + q.length) by omega, show e + emI (opAt q s) + emiF p p.length = e + emiF p p.length + emI (opAt q s) by omega]
    exact this
end

/-- Two that are safe, one behind the other. -/
theorem chk_joins {p q : List (Int × Int)} {a b : CkS} (ha : chk p = some a) (hb : chk q = some b) (hs : Straight p) (hd : depF p p.length = 0) (h24 : (p ++ q).length ≤ 24) (h4 : a.em + b.em ≤ 4) :
    ∃ c, chk (p ++ q) = some c ∧ c.mx = max a.mx b.mx ∧ c.em = a.em + b.em := by
  obtain ⟨fp, sp⟩ := chk_some ha
  obtain ⟨fq, sq⟩ := chk_some hb
  have hg := sp.good
  have hae : a.em = emiF p p.length := by
    obtain ⟨t, d, r⟩ := sp.eme
    have h1 := (rch_straight hs r).2
    have h2 := emiF_mono t p.length (rch_le r) (Nat.le_refl _)
    have h3 := (sp.ok _ _ _ (straight_rch hs hg p.length (Nat.le_refl _))).2.2.2.2.2.1
    omega
  have hem : ∀ t d e, Rch q t d e → e + emiF p p.length ≤ 4 := fun t d e r => by
    have := (sq.ok _ _ _ r).2.2.2.2.2.1
    omega
  have h0 : 0 ≤ emiF p p.length := emiF_mono 0 p.length (Nat.zero_le _) (Nat.le_refl _)
  have good : Good (p ++ q) := by
    refine ⟨fun t d e r => ?_, fun t d e d' e' r r' ht => ?_⟩
    · rcases rch_both hs hg hd r with ⟨h1, h2⟩ | ⟨h1, h2⟩
      · obtain ⟨g1, g2, g3, g4⟩ := hg.fine _ _ _ h2
        exact ⟨g1, g2, g3, fun _ => by rw [opAt_left h1]; exact g4 h1⟩
      · obtain ⟨g1, g2, g3, g4⟩ := sq.good.fine _ _ _ h2
        have := hem _ _ _ h2
        exact ⟨g1, g2, by omega, fun ht => by rw [opAt_right h1]; exact g4 (by rw [List.length_append] at ht; omega)⟩
    · rw [List.length_append] at ht
      rcases rch_both hs hg hd r with ⟨h1, h2⟩ | ⟨h1, h2⟩
      · rcases rch_both hs hg hd r' with ⟨h3, h4⟩ | ⟨h3, h4⟩
        · exact hg.one _ _ _ _ _ h2 h4 h1
        · omega
      · rcases rch_both hs hg hd r' with ⟨h3, h4⟩ | ⟨h3, h4⟩
        · omega
        · exact sq.good.one _ _ _ _ _ h2 h4 (by omega)
  obtain ⟨c, hc⟩ := chk_of_good (fits_append fp fq h24) good
  have sc := (chk_some hc).2
  refine ⟨c, hc, ?_, ?_⟩
  · obtain ⟨t1, e1, r1⟩ := sp.mxe
    obtain ⟨t2, e2, r2⟩ := sq.mxe
    obtain ⟨t3, e3, r3⟩ := sc.mxe
    have g1 := (sc.ok _ _ _ (rch_first hs r1)).2.2.2.2.1
    have g2 := (sc.ok _ _ _ (rch_second hs hg hd hem r2)).2.2.2.2.1
    rcases rch_both hs hg hd r3 with ⟨_, h2⟩ | ⟨_, h2⟩
    · have := (sp.ok _ _ _ h2).2.2.2.2.1; omega
    · have := (sq.ok _ _ _ h2).2.2.2.2.1; omega
  · obtain ⟨t2, d2, r2⟩ := sq.eme
    obtain ⟨t3, d3, r3⟩ := sc.eme
    have g2 := (sc.ok _ _ _ (rch_second hs hg hd hem r2)).2.2.2.2.2.1
    have hb0 := (rch_bounds r2).2.2.1
    rcases rch_both hs hg hd r3 with ⟨_, h2⟩ | ⟨_, h2⟩
    · have := (sp.ok _ _ _ h2).2.2.2.2.2.1; omega
    · have := (sq.ok _ _ _ h2).2.2.2.2.2.1; omega

end Go.Proofs.Ytnhibimpolamoaa
