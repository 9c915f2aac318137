/- Layer 5, check: beginnings of programs, and what can't be come to: plain facts. -/
import Derived.Test.YtfohdoahddommaaDoorChkM
import Derived.Test.YtfohdoahddommaaDoorCodS
namespace Go.Proofs.YtfohdoahddommaaDoor
open Go.RowKit Go.Lib
set_option linter.unusedVariables false
set_option maxRecDepth 100000

/-! ### What can't be come to -/

theorem getD_set_ne {l : List (Int × Int)} {k t : Nat} {x : Int × Int} (h : t ≠ k) : (l.set k x).getD t (0, 0) = l.getD t (0, 0) := by
  rw [List.getD_eq_getElem?_getD, List.getD_eq_getElem?_getD, List.getElem?_set_ne (fun e => h e.symm)]

theorem rch_dead {l : List (Int × Int)} {k : Nat} {x : Int × Int} (hno : ∀ d e, ¬ Rch l k d e) {t : Nat} {d e : Int} : Rch l t d e ↔ Rch (l.set k x) t d e := by
  have hlen : (l.set k x).length = l.length := by simp
  constructor
  · intro r
    induction r with
    | start => exact .start
    | @step s d e t r f m ih =>
      have hs : s ≠ k := fun q => by subst q; exact hno _ _ r
      have ho : opAt (l.set k x) s = opAt l s := by unfold opAt; rw [getD_set_ne hs]
      have ha : arAt (l.set k x) s = arAt l s := by unfold arAt; rw [getD_set_ne hs]
      have := Rch.step ih ⟨by rw [hlen]; exact f.lt, f.lo, f.hi, f.em, by rw [ho]; exact f.tk⟩ (t := t) (by unfold sucL; rw [ho, ha]; exact m)
      rw [hlen, ho] at this
      exact this
  · intro r
    induction r with
    | start => exact .start
    | @step s d e t r f m ih =>
      have hs : s ≠ k := fun q => by subst q; exact hno _ _ ih
      have ho : opAt (l.set k x) s = opAt l s := by unfold opAt; rw [getD_set_ne hs]
      have ha : arAt (l.set k x) s = arAt l s := by unfold arAt; rw [getD_set_ne hs]
      have := Rch.step ih ⟨by rw [← hlen]; exact f.lt, f.lo, f.hi, f.em, by rw [← ho]; exact f.tk⟩ (t := t) (by unfold sucL; rw [← ho, ← ha]; exact m)
      rw [hlen, ho]
      exact this

theorem sem_dead {l : List (Int × Int)} {D : List Int} {mx em : Int} {u0 u1 : Bool} (h : Sem l D mx em u0 u1) {k : Nat} (hk : k < l.length) (hD : D.getD k 0 = -1) (x : Int × Int) : Sem (l.set k x) D mx em u0 u1 := by
  have hno : ∀ d e, ¬ Rch l k d e := fun d e r => by
    have h1 := h.ok k d e r
    have h2 := (h1.2.2.2.2.2.2 hk).1
    omega
  have hlen : (l.set k x).length = l.length := by simp
  have hne : ∀ t d e, Rch l t d e → t ≠ k := fun t d e r q => by subst q; exact hno _ _ r
  have ho : ∀ t, t ≠ k → opAt (l.set k x) t = opAt l t := fun t ht => by unfold opAt; rw [getD_set_ne ht]
  have ha : ∀ t, t ≠ k → arAt (l.set k x) t = arAt l t := fun t ht => by unfold arAt; rw [getD_set_ne ht]
  refine ⟨by rw [hlen]; exact h.len, fun t d e r => ?_, fun t ht => ?_, ?_, ?_, ?_, ?_⟩
  · have r' := (rch_dead hno).2 r
    obtain ⟨p1, p2, p3, p4, p5, p6, p7⟩ := h.ok t d e r'
    refine ⟨p1, p2, p3, p4, p5, p6, fun ht => ?_⟩
    rw [ho t (hne _ _ _ r')]
    exact p7 (by rw [← hlen]; exact ht)
  · rcases h.un t (by rw [← hlen]; exact ht) with q | ⟨e, r⟩
    · exact .inl q
    · exact .inr ⟨e, (rch_dead hno).1 r⟩
  · obtain ⟨t, e, r⟩ := h.mxe; exact ⟨t, e, (rch_dead hno).1 r⟩
  · obtain ⟨t, d, r⟩ := h.eme; exact ⟨t, d, (rch_dead hno).1 r⟩
  · rw [h.u0e]
    constructor
    · rintro ⟨t, d, e, r, h1, h2, h3⟩
      exact ⟨t, d, e, (rch_dead hno).1 r, by rw [hlen]; exact h1, by rw [ho t (hne _ _ _ r)]; exact h2, by rw [ha t (hne _ _ _ r)]; exact h3⟩
    · rintro ⟨t, d, e, r, h1, h2, h3⟩
      have r' := (rch_dead hno).2 r
      exact ⟨t, d, e, r', by rw [← hlen]; exact h1, by rw [← ho t (hne _ _ _ r')]; exact h2, by rw [← ha t (hne _ _ _ r')]; exact h3⟩
  · rw [h.u1e]
    constructor
    · rintro ⟨t, d, e, r, h1, h2, h3⟩
      exact ⟨t, d, e, (rch_dead hno).1 r, by rw [hlen]; exact h1, by rw [ho t (hne _ _ _ r)]; exact h2, by rw [ha t (hne _ _ _ r)]; exact h3⟩
    · rintro ⟨t, d, e, r, h1, h2, h3⟩
      have r' := (rch_dead hno).2 r
      exact ⟨t, d, e, r', by rw [← hlen]; exact h1, by rw [← ho t (hne _ _ _ r')]; exact h2, by rw [← ha t (hne _ _ _ r')]; exact h3⟩

theorem fits_set {l : List (Int × Int)} (h : fitsL l = true) (k : Nat) {x : Int × Int} (hx : rightI x = true) : fitsL (l.set k x) = true := by
  rw [fitsL_iff] at h ⊢
  refine ⟨by simpa using h.1, ?_⟩
  rw [List.all_eq_true] at h ⊢
  intro y hy
  rcases List.mem_or_eq_of_mem_set hy with q | q
  · exact h.2 y q
  · rw [q]; exact hx

theorem chk_dead {l : List (Int × Int)} {s : CkS} (h : chk l = some s) {k : Nat} (hk : k < l.length) (hD : s.D.getD k 0 = -1) {x : Int × Int} (hx : rightI x = true) : ∃ s', chk (l.set k x) = some s' ∧ s'.D = s.D ∧ s'.mx = s.mx ∧ s'.em = s.em ∧ s'.u0 = s.u0 ∧ s'.u1 = s.u1 :=
  chk_of_sem (fits_set (chk_some h).1 k hx) (sem_dead (chk_some h).2 hk hD x)

/-! ### Beginnings -/

theorem opAt_take {l : List (Int × Int)} {m t : Nat} (h : t < m) : opAt (l.take m) t = opAt l t := by
  unfold opAt; rw [List.getD_eq_getElem?_getD, List.getElem?_take_of_lt h, ← List.getD_eq_getElem?_getD]
theorem arAt_take {l : List (Int × Int)} {m t : Nat} (h : t < m) : arAt (l.take m) t = arAt l t := by
  unfold arAt; rw [List.getD_eq_getElem?_getD, List.getElem?_take_of_lt h, ← List.getD_eq_getElem?_getD]

theorem rch_take {l : List (Int × Int)} {m : Nat} (hm : m ≤ l.length) {t : Nat} {d e : Int} (r : Rch (l.take m) t d e) : ∃ t', t = min t' m ∧ Rch l t' d e := by
  have hlen : (l.take m).length = m := by rw [List.length_take]; omega
  induction r with
  | start => exact ⟨0, by omega, .start⟩
  | @step s d e t r f mm ih =>
    obtain ⟨t', h1, h2⟩ := ih
    have hs := f.lt
    rw [hlen] at hs
    obtain rfl : s = t' := by omega
    have ho : opAt (l.take m) s = opAt l s := opAt_take hs
    have ha : arAt (l.take m) s = arAt l s := arAt_take hs
    have := Rch.step h2 ⟨by omega, f.lo, f.hi, f.em, by rw [← ho]; exact f.tk⟩ (t := t) (by unfold sucL; rw [← ho, ← ha]; exact mm)
    rw [ho, hlen]
    exact ⟨_, by omega, this⟩

theorem good_take {l : List (Int × Int)} (h : Good l) {m : Nat} (hm : m ≤ l.length) : Good (l.take m) := by
  have hlen : (l.take m).length = m := by rw [List.length_take]; omega
  refine ⟨fun t d e r => ?_, fun t d e d' e' r r' ht => ?_⟩
  · obtain ⟨t', h1, h2⟩ := rch_take hm r
    obtain ⟨p1, p2, p3, p4⟩ := h.fine _ _ _ h2
    refine ⟨p1, p2, p3, fun ht => ?_⟩
    rw [hlen] at ht
    obtain rfl : t = t' := by omega
    rw [opAt_take ht]
    exact p4 (by omega)
  · rw [hlen] at ht
    obtain ⟨t1, h1, h2⟩ := rch_take hm r
    obtain ⟨t2, h3, h4⟩ := rch_take hm r'
    obtain rfl : t = t1 := by omega
    obtain rfl : t = t2 := by omega
    exact h.one _ _ _ _ _ h2 h4 (by omega)

theorem chk_take {l : List (Int × Int)} {s : CkS} (h : chk l = some s) {m : Nat} (hm : m ≤ l.length) : (chk (l.take m)).isSome = true := by
  obtain ⟨s', hs'⟩ := chk_of_good (fits_take (chk_some h).1 m) (good_take (chk_some h).2.good hm)
  rw [hs']; rfl

end Go.Proofs.YtfohdoahddommaaDoor
