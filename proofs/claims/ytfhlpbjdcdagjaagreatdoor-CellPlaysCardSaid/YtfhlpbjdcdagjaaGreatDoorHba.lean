/- Layer 5, check: all ways are gone, place by place: plain facts. -/
import Derived.Test.YtfhlpbjdcdagjaaGreatDoorHab
import Derived.Test.YtfhlpbjdcdagjaaGreatDoorHah
import Derived.DeepKeys4
import Derived.Maps.Keyed
import Derived.Test.YtfhlpbjdcdagjaaGreatDoorHae
import Derived.Test.YtfhlpbjdcdagjaaGreatDoorHai
import Derived.Maps.AppendAt
import Derived.Test.YtfhlpbjdcdagjaaGreatDoorHak
import Derived.Test.YtfhlpbjdcdagjaaGreatDoorHag
import Derived.Deep.LoopGhost
import Derived.Deep.DeepCutAuto
import Derived.Deep.CutBlock
import Derived.Deep.QuietTactic
import Derived.BigQuiet
import Derived.BigRegion
import Derived.Maps.RangeWalk
import Derived.Deep.RegionHeld3
namespace Go.Proofs.YtfhlpbjdcdagjaaGreatDoor
open Go.RowKit Go.Lib
set_option linter.unusedVariables false
set_option maxRecDepth 100000

abbrev Pl := Int × Int × Int

theorem rch_e0 {l : List (Int × Int)} {t : Nat} {d e : Int} (h : Rch l t d e) : 0 ≤ e := by
  induction h with
  | start => omega
  | @step s d e t r f m ih => have := em_lo (opAt l s); omega

theorem rch_bounds {l : List (Int × Int)} {t : Nat} {d e : Int} (h : Rch l t d e) : 0 ≤ d ∧ d ≤ 10 ∧ 0 ≤ e ∧ e ≤ 5 := by
  cases h with
  | start => omega
  | step r f m =>
    rename_i s d' e' t'
    have he := rch_e0 r
    have h1 := lv_lo (opAt l s)
    have h2 := em_lo (opAt l s)
    have h3 : lvI (opAt l s) ≤ 2 := by unfold lvI; split <;> (try split) <;> omega
    have h4 : emI (opAt l s) ≤ 1 := by unfold emI; split <;> omega
    have h5 := tk_lo (opAt l s)
    have h6 := f.lo; have h7 := f.hi; have h8 := f.em; have h9 := f.tk
    unfold leftI
    omega

/-- What is gone so far: met, still to do, and what is known. -/
structure DInv (l : List (Int × Int)) (M T : List Pl) (D : List Int) (mx em : Int) (u0 u1 : Bool) : Prop where
  len : D.length = l.length
  rch : ∀ x, x ∈ M ∨ x ∈ T → ∃ t : Nat, x.1 = t ∧ Rch l t x.2.1 x.2.2
  nodup : M.Nodup
  start : (0, 0, 0) ∈ M ∨ (0, 0, 0) ∈ T
  clos : ∀ t : Nat, ∀ d e, ((t : Int), d, e) ∈ M → d ≤ 8 ∧ e ≤ 4 ∧ (t < l.length → D.getD t 0 = d ∧ tkI (opAt l t) ≤ d ∧ ∀ t' ∈ sucL l t, (((min t' l.length : Nat) : Int), leftI (opAt l t) d, e + emI (opAt l t)) ∈ M ∨ (((min t' l.length : Nat) : Int), leftI (opAt l t) d, e + emI (opAt l t)) ∈ T)
  un : ∀ t : Nat, t < l.length → D.getD t 0 = -1 ∨ ∃ e, ((t : Int), D.getD t 0, e) ∈ M
  mx1 : ∀ x ∈ M, x.2.1 ≤ mx
  mx2 : mx = 0 ∨ ∃ x ∈ M, x.2.1 = mx
  em1 : ∀ x ∈ M, x.2.2 ≤ em
  em2 : em = 0 ∨ ∃ x ∈ M, x.2.2 = em
  u0e : u0 = true ↔ ∃ t : Nat, ∃ d e, ((t : Int), d, e) ∈ M ∧ t < l.length ∧ (opAt l t = 4 ∨ opAt l t = 5) ∧ arAt l t = 0
  u1e : u1 = true ↔ ∃ t : Nat, ∃ d e, ((t : Int), d, e) ∈ M ∧ t < l.length ∧ (opAt l t = 4 ∨ opAt l t = 5) ∧ arAt l t = 1
  lenT : T.length ≤ M.length + 1

section
variable {l : List (Int × Int)} {M T : List Pl} {D : List Int} {mx em : Int} {u0 u1 : Bool}

theorem dinv_start (l : List (Int × Int)) : DInv l [] [(0, 0, 0)] (List.replicate l.length (-1)) 0 0 false false where
  len := by simp
  rch x hx := by
    rcases hx with hx | hx
    · cases hx
    · simp at hx; subst hx; exact ⟨0, rfl, .start⟩
  nodup := List.nodup_nil
  start := by simp
  clos t d e h := by cases h
  un t ht := .inl (by simp [List.getD_eq_getElem?_getD, ht])
  mx1 x hx := by cases hx
  mx2 := .inl rfl
  em1 x hx := by cases hx
  em2 := .inl rfl
  u0e := by simp
  u1e := by simp
  lenT := by simp

/-- What was met already. -/
theorem DInv.met {x : Pl} (h : DInv l M (T ++ [x]) D mx em u0 u1) (hx : x ∈ M) : DInv l M T D mx em u0 u1 where
  len := h.len
  rch y hy := h.rch y (hy.imp id fun q => by simp [q])
  nodup := h.nodup
  start := by
    rcases h.start with q | q
    · exact .inl q
    · rcases List.mem_append.1 q with q | q
      · exact .inr q
      · simp at q; rw [q]; exact .inl hx
  clos t d e q := by
    obtain ⟨h1, h2, h3⟩ := h.clos t d e q
    refine ⟨h1, h2, fun ht => ?_⟩
    obtain ⟨h4, h5, h6⟩ := h3 ht
    refine ⟨h4, h5, fun t' ht' => ?_⟩
    rcases h6 t' ht' with q | q
    · exact .inl q
    · rcases List.mem_append.1 q with q | q
      · exact .inr q
      · simp only [List.mem_singleton] at q; rw [q]; exact .inl hx
  un := h.un
  mx1 := h.mx1
  mx2 := h.mx2
  em1 := h.em1
  em2 := h.em2
  u0e := h.u0e
  u1e := h.u1e
  lenT := by have := h.lenT; simp at this; omega

theorem max_of {P : Pl → Int} {M : List Pl} {x : Pl} {m : Int} (h1 : ∀ y ∈ M, P y ≤ m) (h2 : m = 0 ∨ ∃ y ∈ M, P y = m) : (∀ y ∈ M ++ [x], P y ≤ max m (P x)) ∧ (max m (P x) = 0 ∨ ∃ y ∈ M ++ [x], P y = max m (P x)) := by
  refine ⟨fun y hy => ?_, ?_⟩
  · rcases List.mem_append.1 hy with q | q
    · have := h1 y q; omega
    · simp at q; subst q; omega
  · by_cases hle : P x ≤ m
    · rw [show max m (P x) = m by omega]
      rcases h2 with q | ⟨y, hy, q⟩
      · exact .inl q
      · exact .inr ⟨y, by simp [hy], q⟩
    · rw [show max m (P x) = P x by omega]
      exact .inr ⟨x, by simp, rfl⟩

/-- The end is come to. -/
theorem DInv.at_end {d e : Int} (h : DInv l M (T ++ [((l.length : Int), d, e)]) D mx em u0 u1) (hx : ((l.length : Int), d, e) ∉ M) (hd : d ≤ 8) (he : e ≤ 4) : DInv l (M ++ [((l.length : Int), d, e)]) T D (max mx d) (max em e) u0 u1 where
  len := h.len
  rch y hy := h.rch y (by
    rcases hy with q | q
    · rcases List.mem_append.1 q with q | q
      · exact .inl q
      · exact .inr (by simp at q; simp [q])
    · exact .inr (by simp [q]))
  nodup := by
    rw [List.nodup_append]
    exact ⟨h.nodup, by simp, fun a ha b hb => by simp at hb; subst hb; intro q; subst q; exact hx ha⟩
  start := by
    rcases h.start with q | q
    · exact .inl (by simp [q])
    · rcases List.mem_append.1 q with q | q
      · exact .inr q
      · exact .inl (by simp only [List.mem_append]; exact .inr q)
  clos t d' e' q := by
    rcases List.mem_append.1 q with q | q
    · obtain ⟨h1, h2, h3⟩ := h.clos t d' e' q
      refine ⟨h1, h2, fun ht => ?_⟩
      obtain ⟨h4, h5, h6⟩ := h3 ht
      refine ⟨h4, h5, fun t' ht' => ?_⟩
      rcases h6 t' ht' with q | q
      · exact .inl (by simp only [List.mem_append]; exact .inl q)
      · rcases List.mem_append.1 q with q | q
        · exact .inr q
        · exact .inl (by simp only [List.mem_append]; exact .inr q)
    · simp only [List.mem_singleton, Prod.mk.injEq] at q
      obtain ⟨q1, rfl, rfl⟩ := q
      exact ⟨hd, he, fun ht => by omega⟩
  un t ht := by
    rcases h.un t ht with q | ⟨e', q⟩
    · exact .inl q
    · exact .inr ⟨e', by simp only [List.mem_append]; exact .inl q⟩
  mx1 := (max_of (P := fun x => x.2.1) (x := ((l.length : Int), d, e)) h.mx1 h.mx2).1
  mx2 := (max_of (P := fun x => x.2.1) (x := ((l.length : Int), d, e)) h.mx1 h.mx2).2
  em1 := (max_of (P := fun x => x.2.2) (x := ((l.length : Int), d, e)) h.em1 h.em2).1
  em2 := (max_of (P := fun x => x.2.2) (x := ((l.length : Int), d, e)) h.em1 h.em2).2
  u0e := by
    rw [h.u0e]
    constructor
    · rintro ⟨t, d', e', q1, q2⟩; exact ⟨t, d', e', by simp only [List.mem_append]; exact .inl q1, q2⟩
    · rintro ⟨t, d', e', q1, q2, q3⟩
      rcases List.mem_append.1 q1 with q | q
      · exact ⟨t, d', e', q, q2, q3⟩
      · simp only [List.mem_singleton, Prod.mk.injEq] at q; omega
  u1e := by
    rw [h.u1e]
    constructor
    · rintro ⟨t, d', e', q1, q2⟩; exact ⟨t, d', e', by simp only [List.mem_append]; exact .inl q1, q2⟩
    · rintro ⟨t, d', e', q1, q2, q3⟩
      rcases List.mem_append.1 q1 with q | q
      · exact ⟨t, d', e', q, q2, q3⟩
      · simp only [List.mem_singleton, Prod.mk.injEq] at q; omega
  lenT := by have := h.lenT; simp at this ⊢; omega

/-- The places to which one leads. -/
def newsL (l : List (Int × Int)) (t : Nat) (d e : Int) : List Pl := (sucL l t).map fun t' => (((min t' l.length : Nat) : Int), leftI (opAt l t) d, e + emI (opAt l t))

theorem newsL_len (l : List (Int × Int)) (t : Nat) (d e : Int) : (newsL l t d e).length ≤ 2 := by
  unfold newsL sucL nextN
  rw [List.length_map]
  split
  · simp
  · split
    · simp
    · split <;> simp

theorem DInv.go {t : Nat} {d e : Int} (h : DInv l M (T ++ [((t : Int), d, e)]) D mx em u0 u1) (hx : ((t : Int), d, e) ∉ M) (ht : t < l.length) (hd : d ≤ 8) (he : e ≤ 4) (hD : D.getD t 0 < 0 ∨ D.getD t 0 = d) (htk : tkI (opAt l t) ≤ d) :
    DInv l (M ++ [((t : Int), d, e)]) (T ++ newsL l t d e) (D.set t d) (max mx d) (max em e) (u0 || (decide (opAt l t = 4 ∨ opAt l t = 5) && decide (arAt l t = 0))) (u1 || (decide (opAt l t = 4 ∨ opAt l t = 5) && decide (arAt l t = 1))) := by
  obtain ⟨t0, ht0, hr⟩ := h.rch ((t : Int), d, e) (.inr (by simp))
  simp only at ht0 hr
  obtain rfl : t = t0 := by omega
  obtain ⟨b1, b2, b3, b4⟩ := rch_bounds hr
  have F : FineI l t d e := ⟨ht, b1, hd, he, htk⟩
  have hold : D.getD t 0 = -1 ∨ D.getD t 0 = d := by
    rcases h.un t ht with q | ⟨e', q⟩
    · exact .inl q
    · obtain ⟨t1, h1, h2⟩ := h.rch _ (.inl q)
      have := rch_bounds h2
      simp only at this
      rcases hD with q2 | q2
      · omega
      · exact .inr q2
  have lenD := h.len
  refine ⟨by simpa using h.len, fun y hy => ?_, ?_, ?_, fun t' d' e' q => ?_, fun t' ht' => ?_, (max_of (P := fun x => x.2.1) (x := ((t : Int), d, e)) h.mx1 h.mx2).1, (max_of (P := fun x => x.2.1) (x := ((t : Int), d, e)) h.mx1 h.mx2).2, (max_of (P := fun x => x.2.2) (x := ((t : Int), d, e)) h.em1 h.em2).1, (max_of (P := fun x => x.2.2) (x := ((t : Int), d, e)) h.em1 h.em2).2, ?_, ?_, ?_⟩
  · rcases hy with q | q
    · rcases List.mem_append.1 q with q | q
      · exact h.rch y (.inl q)
      · exact h.rch y (.inr (by simp at q; simp [q]))
    · rcases List.mem_append.1 q with q | q
      · exact h.rch y (.inr (by simp [q]))
      · obtain ⟨t', ht', rfl⟩ := List.mem_map.1 q
        exact ⟨_, rfl, .step hr F ht'⟩
  · rw [List.nodup_append]
    exact ⟨h.nodup, by simp, fun a ha b hb => by simp at hb; subst hb; intro q; subst q; exact hx ha⟩
  · rcases h.start with q | q
    · exact .inl (by simp [q])
    · rcases List.mem_append.1 q with q | q
      · exact .inr (by simp [q])
      · exact .inl (by simp only [List.mem_append]; exact .inr q)
  · rcases List.mem_append.1 q with qm | q
    · obtain ⟨h1, h2, h3⟩ := h.clos t' d' e' qm
      refine ⟨h1, h2, fun ht' => ?_⟩
      obtain ⟨h4, h5, h6⟩ := h3 ht'
      refine ⟨?_, h5, fun t2 ht2 => ?_⟩
      · rw [getD_set]
        split
        · rename_i hq
          obtain ⟨rfl, _⟩ := hq
          obtain ⟨t3, h7, h8⟩ := h.rch _ (.inl qm)
          have := rch_bounds h8
          simp only at this
          rcases hold with q2 | q2 <;> omega
        · exact h4
      · rcases h6 t2 ht2 with q | q
        · exact .inl (by simp only [List.mem_append]; exact .inl q)
        · rcases List.mem_append.1 q with q | q
          · exact .inr (by simp only [List.mem_append]; exact .inl q)
          · exact .inl (by simp only [List.mem_append]; exact .inr q)
    · simp only [List.mem_singleton, Prod.mk.injEq] at q
      obtain ⟨q1, rfl, rfl⟩ := q
      obtain rfl : t' = t := by omega
      refine ⟨hd, he, fun _ => ⟨?_, htk, fun t2 ht2 => .inr (by simp only [List.mem_append]; exact .inr (List.mem_map.2 ⟨t2, ht2, rfl⟩))⟩⟩
      rw [getD_set, if_pos ⟨rfl, by omega⟩]
  · rw [getD_set]
    split
    · rename_i hq
      obtain ⟨rfl, _⟩ := hq
      exact .inr ⟨e, by simp⟩
    · rcases h.un t' ht' with q | ⟨e', q⟩
      · exact .inl q
      · exact .inr ⟨e', by simp only [List.mem_append]; exact .inl q⟩
  · rw [Bool.or_eq_true, h.u0e, Bool.and_eq_true, decide_eq_true_eq, decide_eq_true_eq]
    constructor
    · rintro (⟨t', d', e', q1, q2⟩ | ⟨q1, q2⟩)
      · exact ⟨t', d', e', by simp only [List.mem_append]; exact .inl q1, q2⟩
      · exact ⟨t, d, e, by simp, ht, q1, q2⟩
    · rintro ⟨t', d', e', q1, q2, q3⟩
      rcases List.mem_append.1 q1 with q | q
      · exact .inl ⟨t', d', e', q, q2, q3⟩
      · simp only [List.mem_singleton, Prod.mk.injEq] at q
        obtain rfl : t' = t := by omega
        exact .inr q3
  · rw [Bool.or_eq_true, h.u1e, Bool.and_eq_true, decide_eq_true_eq, decide_eq_true_eq]
    constructor
    · rintro (⟨t', d', e', q1, q2⟩ | ⟨q1, q2⟩)
      · exact ⟨t', d', e', by simp only [List.mem_append]; exact .inl q1, q2⟩
      · exact ⟨t, d, e, by simp, ht, q1, q2⟩
    · rintro ⟨t', d', e', q1, q2, q3⟩
      rcases List.mem_append.1 q1 with q | q
      · exact .inl ⟨t', d', e', q, q2, q3⟩
      · simp only [List.mem_singleton, Prod.mk.injEq] at q
        obtain rfl : t' = t := by omega
        exact .inr q3
  · have := h.lenT
    have := newsL_len l t d e
    simp at *
    omega

/-- All ways are gone. -/
theorem DInv.done (h : DInv l M [] D mx em u0 u1) : Sem l D mx em u0 u1 := by
  have hall : ∀ t d e, Rch l t d e → ((t : Int), d, e) ∈ M := by
    intro t d e r
    induction r with
    | start =>
      rcases h.start with q | q
      · exact q
      · cases q
    | step r f m ih =>
      rcases ((h.clos _ _ _ ih).2.2 f.lt).2.2 _ m with q | q
      · exact q
      · cases q
  refine ⟨h.len, fun t d e r => ?_, fun t ht => ?_, ?_, ?_, ?_, ?_⟩
  · obtain ⟨h1, h2, h3⟩ := h.clos _ _ _ (hall _ _ _ r)
    obtain ⟨b1, b2, b3, b4⟩ := rch_bounds r
    exact ⟨b1, h1, b3, h2, h.mx1 _ (hall _ _ _ r), h.em1 _ (hall _ _ _ r), fun ht => ⟨(h3 ht).1, (h3 ht).2.1⟩⟩
  · rcases h.un t ht with q | ⟨e, q⟩
    · exact .inl q
    · obtain ⟨t0, h1, h2⟩ := h.rch _ (.inl q)
      simp only at h1 h2
      obtain rfl : t = t0 := by omega
      exact .inr ⟨e, h2⟩
  · rcases h.mx2 with q | ⟨x, hx, q⟩
    · rw [q]; exact ⟨0, 0, .start⟩
    · obtain ⟨t0, h1, h2⟩ := h.rch _ (.inl hx)
      rw [← q]; exact ⟨_, _, h2⟩
  · rcases h.em2 with q | ⟨x, hx, q⟩
    · rw [q]; exact ⟨0, 0, .start⟩
    · obtain ⟨t0, h1, h2⟩ := h.rch _ (.inl hx)
      rw [← q]; exact ⟨_, _, h2⟩
  · rw [h.u0e]
    constructor
    · rintro ⟨t, d, e, q1, q2⟩
      obtain ⟨t0, h1, h2⟩ := h.rch _ (.inl q1)
      simp only at h1 h2
      obtain rfl : t = t0 := by omega
      exact ⟨t, d, e, h2, q2⟩
    · rintro ⟨t, d, e, q1, q2⟩
      exact ⟨t, d, e, hall _ _ _ q1, q2⟩
  · rw [h.u1e]
    constructor
    · rintro ⟨t, d, e, q1, q2⟩
      obtain ⟨t0, h1, h2⟩ := h.rch _ (.inl q1)
      simp only at h1 h2
      obtain rfl : t = t0 := by omega
      exact ⟨t, d, e, h2, q2⟩
    · rintro ⟨t, d, e, q1, q2⟩
      exact ⟨t, d, e, hall _ _ _ q1, q2⟩

/-- What is still to do is come to. -/
theorem DInv.last {t d e : Int} (h : DInv l M (T ++ [(t, d, e)]) D mx em u0 u1) : ∃ k : Nat, t = k ∧ k ≤ l.length ∧ Rch l k d e := by
  obtain ⟨k, h1, h2⟩ := h.rch (t, d, e) (.inr (by simp))
  exact ⟨k, h1, rch_le h2, h2⟩

theorem DInv.far {k : Nat} {d e : Int} (h : DInv l M (T ++ [((k : Int), d, e)]) D mx em u0 u1) (hb : 8 < d ∨ 4 < e) : ¬ Good l := by
  intro G
  obtain ⟨k', h1, _, h2⟩ := h.last
  have := G.fine _ _ _ h2
  omega

theorem DInv.two {k : Nat} {d e : Int} (h : DInv l M (T ++ [((k : Int), d, e)]) D mx em u0 u1) (hk : k < l.length) (h0 : 0 ≤ D.getD k 0) (hne : D.getD k 0 ≠ d) : ¬ Good l := by
  intro G
  obtain ⟨k', h1, _, h2⟩ := h.last
  obtain rfl : k = k' := by omega
  rcases h.un k hk with q | ⟨e', q⟩
  · omega
  · obtain ⟨k2, h3, h4⟩ := h.rch _ (.inl q)
    simp only at h3 h4
    obtain rfl : k = k2 := by omega
    exact hne (G.one _ _ _ _ _ h4 h2 hk)

theorem DInv.low {k : Nat} {d e : Int} (h : DInv l M (T ++ [((k : Int), d, e)]) D mx em u0 u1) (hk : k < l.length) (htk : d < tkI (opAt l k)) : ¬ Good l := by
  intro G
  obtain ⟨k', h1, _, h2⟩ := h.last
  obtain rfl : k = k' := by omega
  have := (G.fine _ _ _ h2).2.2.2 hk
  omega

end

theorem nodup_bound : ∀ (N : Nat) (l : List Nat), l.Nodup → (∀ x ∈ l, x < N) → l.length ≤ N
  | 0, l, _, h => by
    cases l with
    | nil => simp
    | cons x l => have := h x (by simp); omega
  | N + 1, l, hn, h => by
    by_cases hm : N ∈ l
    · have h1 := nodup_bound N (l.erase N) (hn.erase N) (fun x hx => by
        have h2 := h x (List.mem_of_mem_erase hx)
        have h3 : x ≠ N := fun q => by subst q; exact (List.Nodup.not_mem_erase hn) hx
        omega)
      rw [List.length_erase_of_mem hm] at h1
      omega
    · have h1 := nodup_bound N l hn (fun x hx => by
        have h2 := h x hx
        have h3 : x ≠ N := fun q => by subst q; exact hm hx
        omega)
      omega

def plN (x : Pl) : Nat := (x.1.toNat * 11 + x.2.1.toNat) * 6 + x.2.2.toNat

theorem DInv.few {l : List (Int × Int)} {M T : List Pl} {D : List Int} {mx em : Int} {u0 u1 : Bool} (h : DInv l M T D mx em u0 u1) (h24 : l.length ≤ 24) : M.length ≤ 1650 := by
  have hb : ∀ x ∈ M, 0 ≤ x.1 ∧ x.1 ≤ 24 ∧ 0 ≤ x.2.1 ∧ x.2.1 ≤ 10 ∧ 0 ≤ x.2.2 ∧ x.2.2 ≤ 5 := fun x hx => by
    obtain ⟨t, h1, h2⟩ := h.rch x (.inl hx)
    obtain ⟨b1, b2, b3, b4⟩ := rch_bounds h2
    have := rch_le h2
    omega
  have hinj : ∀ x ∈ M, ∀ y ∈ M, plN x = plN y → x = y := fun x hx y hy hxy => by
    have h1 := hb x hx; have h2 := hb y hy
    obtain ⟨a, b, c⟩ := x
    obtain ⟨a', b', c'⟩ := y
    unfold plN at hxy
    simp only at h1 h2 hxy
    simp only [Prod.mk.injEq]
    omega
  have hnd : (M.map plN).Nodup := by
    rw [List.Nodup, List.pairwise_map]
    refine List.Pairwise.imp_of_mem ?_ h.nodup
    intro a b ha hb2 hne q
    exact hne (hinj a ha b hb2 q)
  have := nodup_bound 1650 (M.map plN) hnd (fun n hn => by
    obtain ⟨x, hx, rfl⟩ := List.mem_map.1 hn
    have := hb x hx
    unfold plN
    omega)
  simpa using this

end Go.Proofs.YtfhlpbjdcdagjaaGreatDoor

namespace Go.Proofs.YtfhlpbjdcdagjaaGreatDoor
open Go.RowKit
open Go.Maps (Keyed)
set_option linter.unusedVariables false
set_option maxRecDepth 100000

abbrev plV (x : Int × Int × Int) : Value := .agg #[.int .i64 x.1, .int .i64 x.2.1, .int .i64 x.2.2]

theorem laid5 : laidOutB Tryz.prog = true := by kernel_rfl
theorem rowPl : (85 : TypeId) < Tryz.prog.types.size := of_decide_eq_true (by kernel_rfl)
theorem widePl : (match Tryz.prog.underlying 85 with | some (.array _ _) | some (.struct _) => true | _ => false) = true := by kernel_rfl
theorem keyedPl : Keyed Tryz.prog 85 := Keyed.of_law (deep_law_laid laid5 (m := 2) (by omega) rowPl (by kernel_rfl) widePl)
theorem cellsPl : Tryz.prog.cellsOf 85 = 3 := by kernel_rfl
theorem cellsInt5 : Tryz.prog.cellsOf 3 = 1 := by kernel_rfl
theorem ktPl : Tryz.prog.keyType 85 = true := by kernel_rfl

def Wf3 (x : Int × Int × Int) : Prop := (Lit.int .i64 x.1).wf = true ∧ (Lit.int .i64 x.2.1).wf = true ∧ (Lit.int .i64 x.2.2).wf = true

theorem key_pl {x : Int × Int × Int} (h : Wf3 x) : ∃ i, keyOf Tryz.prog 85 (plV x) = some i := by
  obtain ⟨a, d, e⟩ := x
  obtain ⟨h1, h2, h3⟩ := h
  unfold keyOf
  rw [Tryz.underlying85]
  simp only
  rw [ktPl]
  have hf : (plV (a, d, e)).formed Tryz.prog 85 = true := by simp [Value.formed, Tryz.underlying85, cellsPl]
  rw [hf]
  simp only [Bool.and_self, if_true]
  obtain ⟨m, hm⟩ : ∃ m, Tryz.prog.types.size = m + 1 := Nat.exists_eq_succ_of_ne_zero (Nat.ne_of_gt (Nat.lt_of_le_of_lt (Nat.zero_le _) rowPl))
  rw [hm]
  simp only at h1 h2 h3
  refine ⟨.string (keyBytes [.int .i64 a, .int .i64 d, .int .i64 e]), ?_⟩
  simp [Program.keyLits, Tryz.underlying85, Tryz.underlying3, cellsPl, cellsInt5, Value.cells, h1, h2, h3]

end Go.Proofs.YtfhlpbjdcdagjaaGreatDoor

namespace Go.Proofs.YtfhlpbjdcdagjaaGreatDoor
open Go.RowKit
set_option linter.unusedVariables false
set_option maxRecDepth 100000

theorem take_any (o : Int) (w : World) (h0 : 0 ≤ o) (h1 : o ≤ 17) : Calls Tryz.prog 31 #[.int .i64 o] w fun e w' => e = .returned (.int .i64 (tkI o)) ∧ w' = w := by
  have : o = 0 ∨ o = 1 ∨ o = 2 ∨ o = 3 ∨ o = 4 ∨ o = 5 ∨ o = 6 ∨ o = 7 ∨ o = 8 ∨ o = 9 ∨ o = 10 ∨ o = 11 ∨ o = 12 ∨ o = 13 ∨ o = 14 ∨ o = 15 ∨ o = 16 ∨ o = 17 := by omega
  rcases this with rfl | rfl | rfl | rfl | rfl | rfl | rfl | rfl | rfl | rfl | rfl | rfl | rfl | rfl | rfl | rfl | rfl | rfl
  all_goals
    clear h0 h1
    go_enter Tryz.func31, Tryz.ntmps31
    go_wp2_with fail
    go_ret
    exact ⟨rfl, rfl⟩

theorem leave_any (o : Int) (w : World) (h0 : 0 ≤ o) (h1 : o ≤ 17) : Calls Tryz.prog 32 #[.int .i64 o] w fun e w' => e = .returned (.int .i64 (lvI o)) ∧ w' = w := by
  have : o = 0 ∨ o = 1 ∨ o = 2 ∨ o = 3 ∨ o = 4 ∨ o = 5 ∨ o = 6 ∨ o = 7 ∨ o = 8 ∨ o = 9 ∨ o = 10 ∨ o = 11 ∨ o = 12 ∨ o = 13 ∨ o = 14 ∨ o = 15 ∨ o = 16 ∨ o = 17 := by omega
  rcases this with rfl | rfl | rfl | rfl | rfl | rfl | rfl | rfl | rfl | rfl | rfl | rfl | rfl | rfl | rfl | rfl | rfl | rfl
  all_goals
    clear h0 h1
    go_enter Tryz.func32, Tryz.ntmps32
    go_wp2_with fail
    go_ret
    exact ⟨rfl, rfl⟩

/-- Where all stands: the answer, what is known, what was met, the depths. -/
structure RfK where
  g2 : Nat
  g3 : Nat
  bM : Nat
  gD : Nat
  base : Nat
  n : Nat
  c : Nat
  A : Option Addr

structure RfS where
  M : List Pl
  T : List Pl
  D : List Int
  mx : Int
  em : Int
  u0 : Bool
  u1 : Bool

def plC (x : Pl) : List Value := [.int .i64 x.1, .int .i64 x.2.1, .int .i64 x.2.2]

def metL (M : List Pl) : List (Value × Value) := M.map fun x => (plV x, .bool true)

structure RfAt (W w : World) (K : RfK) (vT : Value) (s : RfS) : Prop where
  r0 : w.cell? ⟨K.g2, 0, none⟩ = some (.slice none 0 0)
  r1 : w.cell? ⟨K.g2, 1, none⟩ = some (.int .i64 0)
  r2 : w.cell? ⟨K.g2, 2, none⟩ = some (.int .i64 0)
  r3 : w.cell? ⟨K.g2, 3, none⟩ = some (.bool false)
  r4 : w.cell? ⟨K.g2, 4, none⟩ = some (.bool false)
  r5 : w.cell? ⟨K.g2, 5, none⟩ = some (.bool false)
  rf : ∀ j, w.frozen? ⟨K.g2, j, none⟩ = false
  k0 : w.cell? ⟨K.g3, 0, none⟩ = some (.slice K.A K.n K.c)
  k1 : w.cell? ⟨K.g3, 1, none⟩ = some (.int .i64 s.mx)
  k2 : w.cell? ⟨K.g3, 2, none⟩ = some (.int .i64 s.em)
  k3 : w.cell? ⟨K.g3, 3, none⟩ = some (.bool s.u0)
  k4 : w.cell? ⟨K.g3, 4, none⟩ = some (.bool s.u1)
  k5 : w.cell? ⟨K.g3, 5, none⟩ = some (.bool true)
  kf : ∀ j, w.frozen? ⟨K.g3, j, none⟩ = false
  hA : 0 < K.n → K.A = some ⟨K.gD, 0, none⟩
  dl : s.D.length = K.n
  hc : K.n ≤ K.c
  cD : ∀ j, j < K.n → w.cell? ⟨K.gD, j, none⟩ = some (.int .i64 (s.D.getD j 0))
  fD : ∀ j, j < K.n → w.frozen? ⟨K.gD, j, none⟩ = false
  met : MapAt w K.bM (metL s.M)
  own : w.ownsRow K.base 85 3 vT s.T.length (s.T.flatMap plC)
  hT : ∀ g, vT.ownBlock = some g → g ≠ K.g2 ∧ g ≠ K.g3 ∧ g ≠ K.bM ∧ (0 < K.n → g ≠ K.gD)
  d23 : K.g2 ≠ K.g3
  d2M : K.g2 ≠ K.bM
  d3M : K.g3 ≠ K.bM
  dD : 0 < K.n → K.g2 ≠ K.gD ∧ K.g3 ≠ K.gD ∧ K.bM ≠ K.gD ∧ W.heap.size ≤ K.gD
  bel : Below W.heap.size W w
  b2 : W.heap.size ≤ K.g2
  b3 : W.heap.size ≤ K.g3
  bM : W.heap.size ≤ K.bM
  bb : W.heap.size ≤ K.base
  lb : K.base ≤ w.heap.size

/-- A block that holds none of it. -/
def Fr (W : World) (K : RfK) (vT : Value) (g : Nat) : Prop := g ≠ K.g2 ∧ g ≠ K.g3 ∧ g ≠ K.bM ∧ (0 < K.n → g ≠ K.gD) ∧ vT.ownBlock ≠ some g ∧ W.heap.size ≤ g

section
variable {W w w' : World} {K : RfK} {vT : Value} {s : RfS}

theorem RfAt.l2 (h : RfAt W w K vT s) : K.g2 < w.heap.size := World.block_lt_of_cell? w _ h.r0
theorem RfAt.l3 (h : RfAt W w K vT s) : K.g3 < w.heap.size := World.block_lt_of_cell? w _ h.k0
theorem RfAt.lD (h : RfAt W w K vT s) (hn : 0 < K.n) : K.gD < w.heap.size := World.block_lt_of_cell? w _ (h.cD 0 hn)
theorem RfAt.lT (h : RfAt W w K vT s) (g : Nat) (hg : vT.ownBlock = some g) : g < w.heap.size := (h.own.lt g hg).2

theorem RfAt.fresh (h : RfAt W w K vT s) : Fr W K vT w.heap.size := by
  have := h.l2; have := h.l3; have := h.met.lt; have h4 := fun q => h.lD q; have h5 := h.lT
  refine ⟨by omega, by omega, by omega, fun q => by have := h4 q; omega, fun q => by have := h5 _ q; omega, h.bel.size⟩

/-- All of it stays. -/
theorem RfAt.grown {row : Option Nat} (h : RfAt W w K vT s) (hg : w.grownBy w' row) (hr : ∀ g, row = some g → Fr W K vT g) : RfAt W w' K vT s := by
  have blk : ∀ x, x < w.heap.size → (∀ g, row = some g → g ≠ x) → w'.heap[x]? = w.heap[x]? := fun x hx hne => hg.block x hx (fun e => hne x e.symm rfl)
  have e2 := blk K.g2 h.l2 (fun g q => (hr g q).1)
  have e3 := blk K.g3 h.l3 (fun g q => (hr g q).2.1)
  have eM := blk K.bM h.met.lt (fun g q => (hr g q).2.2.1)
  have eD : 0 < K.n → w'.heap[K.gD]? = w.heap[K.gD]? := fun hn => blk K.gD (h.lD hn) (fun g q => (hr g q).2.2.2.1 hn)
  have c2 : ∀ j, w'.cell? ⟨K.g2, j, none⟩ = w.cell? ⟨K.g2, j, none⟩ := fun j => World.cell?_of_block e2
  have c3 : ∀ j, w'.cell? ⟨K.g3, j, none⟩ = w.cell? ⟨K.g3, j, none⟩ := fun j => World.cell?_of_block e3
  refine ⟨(c2 _).trans h.r0, (c2 _).trans h.r1, (c2 _).trans h.r2, (c2 _).trans h.r3, (c2 _).trans h.r4, (c2 _).trans h.r5, fun j => (World.frozen?_of_block e2).trans (h.rf j),
    (c3 _).trans h.k0, (c3 _).trans h.k1, (c3 _).trans h.k2, (c3 _).trans h.k3, (c3 _).trans h.k4, (c3 _).trans h.k5, fun j => (World.frozen?_of_block e3).trans (h.kf j), h.hA, h.dl, h.hc,
    fun j hj => (World.cell?_of_block (eD (by omega))).trans (h.cD j hj), fun j hj => (World.frozen?_of_block (eD (by omega))).trans (h.fD j hj), h.met.keep eM, ?_, h.hT, h.d23, h.d2M, h.d3M, h.dD, ?_, h.b2, h.b3, h.bM, h.bb, Nat.le_trans h.lb hg.size⟩
  · refine h.own.kept hg ?_
    cases hv : vT.ownBlock with
    | none => exact .inl rfl
    | some g => exact .inr (fun e => (hr g e.symm).2.2.2.2.1 hv)
  · exact h.bel.grown hg h.bel.size (fun g q => (hr g q).2.2.2.2.2)

theorem RfAt.alloc (h : RfAt W w K vT s) (o : Obj) : RfAt W (w.alloc o) K vT s := h.grown (World.grownBy_alloc w o none) (fun g q => by cases q)

theorem RfAt.drew (h : RfAt W w K vT s) : RfAt W w.drew K vT s := h.grown (row := none) ⟨rfl, rfl, rfl, Nat.le_refl _, fun _ _ _ => rfl⟩ (fun g q => by cases q)

theorem RfAt.drewN (h : RfAt W w K vT s) (n : Nat) : RfAt W (w.drewN n) K vT s := h.grown (row := none) ⟨rfl, rfl, rfl, Nat.le_refl _, fun _ _ _ => rfl⟩ (fun g q => by cases q)

theorem RfAt.setFr (h : RfAt W w K vT s) {g : Nat} (hg : Fr W K vT g) (i : Nat) (v : Value) : RfAt W (w.setCell ⟨g, i, none⟩ v) K vT s :=
  h.grown (row := some g) (turned_set (turned_refl w (some g)) (.inl rfl) v) (fun x q => by injection q with q; subst q; exact hg)

/-- What is known turns in one place. -/
theorem RfAt.setK (h : RfAt W w K vT s) (s' : RfS) (hM : s'.M = s.M) (hT' : s'.T = s.T) (hD : s'.D = s.D) (i : Nat) (v : Value) (i1 : 1 ≤ i) (i4 : i ≤ 4)
    (h1 : (if i = 1 then v else .int .i64 s.mx) = .int .i64 s'.mx) (h2 : (if i = 2 then v else .int .i64 s.em) = .int .i64 s'.em) (h3 : (if i = 3 then v else .bool s.u0) = .bool s'.u0) (h4 : (if i = 4 then v else .bool s.u1) = .bool s'.u1) :
    RfAt W (w.setCell ⟨K.g3, i, none⟩ v) K vT s' := by
  have hg := turned_set (p := ⟨K.g3, i, none⟩) (turned_refl w (some K.g3)) (.inl rfl) v
  have o1 : ∀ x j, x ≠ K.g3 → (w.setCell ⟨K.g3, i, none⟩ v).cell? ⟨x, j, none⟩ = w.cell? ⟨x, j, none⟩ := fun x j hx => World.cell?_setCell_other _ _ _ _ (by intro e; injection e with e1; exact hx e1.symm)
  have o2 : ∀ j, j ≠ i → (w.setCell ⟨K.g3, i, none⟩ v).cell? ⟨K.g3, j, none⟩ = w.cell? ⟨K.g3, j, none⟩ := fun j hj => World.cell?_setCell_other _ _ _ _ (by intro e; injection e with e1 e2; exact hj e2.symm)
  have key : ∀ j u u', w.cell? ⟨K.g3, j, none⟩ = some u → (if i = j then v else u) = u' → (w.setCell ⟨K.g3, i, none⟩ v).cell? ⟨K.g3, j, none⟩ = some u' := by
    intro j u u' hu hq
    by_cases hj : i = j
    · subst hj
      rw [if_pos rfl] at hq
      rw [World.cell?_setCell_same _ _ _ hu, hq]
    · rw [if_neg hj] at hq
      rw [o2 j (fun q => hj q.symm), hu, hq]
  have hf : ∀ x : Addr, (w.setCell ⟨K.g3, i, none⟩ v).frozen? x = w.frozen? x := fun x => World.frozen?_setCell _ _ _ _
  have n2 := h.d23
  refine ⟨(o1 _ _ n2).trans h.r0, (o1 _ _ n2).trans h.r1, (o1 _ _ n2).trans h.r2, (o1 _ _ n2).trans h.r3, (o1 _ _ n2).trans h.r4, (o1 _ _ n2).trans h.r5, fun j => by rw [hf]; exact h.rf j,
    (o2 0 (by omega)).trans h.k0, key 1 _ _ h.k1 h1, key 2 _ _ h.k2 h2, key 3 _ _ h.k3 h3, key 4 _ _ h.k4 h4, (o2 5 (by omega)).trans h.k5, fun j => by rw [hf]; exact h.kf j, h.hA, by rw [hD]; exact h.dl, h.hc,
    fun j hj => by rw [o1 _ _ (fun e => (h.dD (by omega)).2.1 e.symm), hD]; exact h.cD j hj, fun j hj => by rw [hf]; exact h.fD j hj, by rw [hM]; exact h.met.setCell h.d3M.symm _, ?_, h.hT, h.d23, h.d2M, h.d3M, h.dD, h.bel.setCell h.b3 _, h.b2, h.b3, h.bM, h.bb, by simpa using h.lb⟩
  rw [hT']
  refine h.own.kept hg ?_
  cases hv : vT.ownBlock with
  | none => exact .inl rfl
  | some g => exact .inr (fun e => by injection e with e; exact (h.hT g hv).2.1 e)

/-- One depth is written. -/
theorem RfAt.setD (h : RfAt W w K vT s) {t : Nat} (ht : t < K.n) (d : Int) : RfAt W (w.setCell ⟨K.gD, t, none⟩ (.int .i64 d)) K vT { s with D := s.D.set t d } := by
  have hg := turned_set (p := ⟨K.gD, t, none⟩) (turned_refl w (some K.gD)) (.inl rfl) (.int .i64 d)
  have o1 : ∀ x j, x ≠ K.gD → (w.setCell ⟨K.gD, t, none⟩ (.int .i64 d)).cell? ⟨x, j, none⟩ = w.cell? ⟨x, j, none⟩ := fun x j hx => World.cell?_setCell_other _ _ _ _ (by intro e; injection e with e1; exact hx e1.symm)
  have hf : ∀ x : Addr, (w.setCell ⟨K.gD, t, none⟩ (.int .i64 d)).frozen? x = w.frozen? x := fun x => World.frozen?_setCell _ _ _ _
  obtain ⟨n2, n3, nM, nb⟩ := h.dD (by omega)
  refine ⟨(o1 _ _ n2).trans h.r0, (o1 _ _ n2).trans h.r1, (o1 _ _ n2).trans h.r2, (o1 _ _ n2).trans h.r3, (o1 _ _ n2).trans h.r4, (o1 _ _ n2).trans h.r5, fun j => by rw [hf]; exact h.rf j,
    (o1 _ _ n3).trans h.k0, (o1 _ _ n3).trans h.k1, (o1 _ _ n3).trans h.k2, (o1 _ _ n3).trans h.k3, (o1 _ _ n3).trans h.k4, (o1 _ _ n3).trans h.k5, fun j => by rw [hf]; exact h.kf j, h.hA, by simpa using h.dl, h.hc,
    fun j hj => ?_, fun j hj => by rw [hf]; exact h.fD j hj, h.met.setCell nM _, ?_, h.hT, h.d23, h.d2M, h.d3M, h.dD, h.bel.setCell nb _, h.b2, h.b3, h.bM, h.bb, by simpa using h.lb⟩
  · simp only
    rw [getD_set, h.dl]
    by_cases hjt : j = t
    · subst hjt
      rw [if_pos ⟨rfl, ht⟩, World.cell?_setCell_same _ _ _ (h.cD j ht)]
    · rw [if_neg (fun q => hjt q.1), World.cell?_setCell_other _ _ _ _ (by intro e; injection e with e1 e2; exact hjt (by omega))]
      exact h.cD j hj
  · refine h.own.kept hg ?_
    cases hv : vT.ownBlock with
    | none => exact .inl rfl
    | some g => exact .inr (fun e => by injection e with e; exact (h.hT g hv).2.2.2 (by omega) e)

/-- One is met. -/
theorem RfAt.setM (h : RfAt W w K vT s) (hg : w.grownBy w' (some K.bM)) (x : Pl) (hm : MapAt w' K.bM (metL s.M ++ [(plV x, .bool true)])) : RfAt W w' K vT { s with M := s.M ++ [x] } := by
  have blk : ∀ y, y < w.heap.size → y ≠ K.bM → w'.heap[y]? = w.heap[y]? := fun y hy hne => hg.block y hy (fun e => by injection e with e; exact hne e)
  have e2 := blk K.g2 h.l2 h.d2M
  have e3 := blk K.g3 h.l3 h.d3M
  have eD : 0 < K.n → w'.heap[K.gD]? = w.heap[K.gD]? := fun hn => blk K.gD (h.lD hn) (fun e => (h.dD hn).2.2.1 e.symm)
  have c2 : ∀ j, w'.cell? ⟨K.g2, j, none⟩ = w.cell? ⟨K.g2, j, none⟩ := fun j => World.cell?_of_block e2
  have c3 : ∀ j, w'.cell? ⟨K.g3, j, none⟩ = w.cell? ⟨K.g3, j, none⟩ := fun j => World.cell?_of_block e3
  refine ⟨(c2 _).trans h.r0, (c2 _).trans h.r1, (c2 _).trans h.r2, (c2 _).trans h.r3, (c2 _).trans h.r4, (c2 _).trans h.r5, fun j => (World.frozen?_of_block e2).trans (h.rf j),
    (c3 _).trans h.k0, (c3 _).trans h.k1, (c3 _).trans h.k2, (c3 _).trans h.k3, (c3 _).trans h.k4, (c3 _).trans h.k5, fun j => (World.frozen?_of_block e3).trans (h.kf j), h.hA, h.dl, h.hc,
    fun j hj => (World.cell?_of_block (eD (by omega))).trans (h.cD j hj), fun j hj => (World.frozen?_of_block (eD (by omega))).trans (h.fD j hj), by simpa [metL] using hm, ?_, h.hT, h.d23, h.d2M, h.d3M, h.dD, ?_, h.b2, h.b3, h.bM, h.bb, Nat.le_trans h.lb hg.size⟩
  · refine h.own.kept hg ?_
    cases hv : vT.ownBlock with
    | none => exact .inl rfl
    | some g => exact .inr (fun e => by injection e with e; exact (h.hT g hv).2.2.1 e)
  · exact h.bel.grown hg h.bel.size (fun g q => by injection q with q; subst q; exact h.bM)

/-- One more is to do. -/
theorem RfAt.push (h : RfAt W w K vT s) {v' : Value} (hg : w.grownBy w' vT.ownBlock) (x : Pl) (hown : w'.ownsRow K.base 85 3 v' (s.T.length + 1) (s.T.flatMap plC ++ plC x)) (hat : v'.ownBlock = vT.ownBlock ∨ v'.ownBlock = some w.heap.size) :
    RfAt W w' K v' { s with T := s.T ++ [x] } := by
  have blk : ∀ y, y < w.heap.size → (∀ g, vT.ownBlock = some g → g ≠ y) → w'.heap[y]? = w.heap[y]? := fun y hy hne => hg.block y hy (fun e => hne y e.symm rfl)
  have e2 := blk K.g2 h.l2 (fun g q => (h.hT g q).1)
  have e3 := blk K.g3 h.l3 (fun g q => (h.hT g q).2.1)
  have eM := blk K.bM h.met.lt (fun g q => (h.hT g q).2.2.1)
  have eD : 0 < K.n → w'.heap[K.gD]? = w.heap[K.gD]? := fun hn => blk K.gD (h.lD hn) (fun g q => (h.hT g q).2.2.2 hn)
  have c2 : ∀ j, w'.cell? ⟨K.g2, j, none⟩ = w.cell? ⟨K.g2, j, none⟩ := fun j => World.cell?_of_block e2
  have c3 : ∀ j, w'.cell? ⟨K.g3, j, none⟩ = w.cell? ⟨K.g3, j, none⟩ := fun j => World.cell?_of_block e3
  have fr := h.fresh
  refine ⟨(c2 _).trans h.r0, (c2 _).trans h.r1, (c2 _).trans h.r2, (c2 _).trans h.r3, (c2 _).trans h.r4, (c2 _).trans h.r5, fun j => (World.frozen?_of_block e2).trans (h.rf j),
    (c3 _).trans h.k0, (c3 _).trans h.k1, (c3 _).trans h.k2, (c3 _).trans h.k3, (c3 _).trans h.k4, (c3 _).trans h.k5, fun j => (World.frozen?_of_block e3).trans (h.kf j), h.hA, h.dl, h.hc,
    fun j hj => (World.cell?_of_block (eD (by omega))).trans (h.cD j hj), fun j hj => (World.frozen?_of_block (eD (by omega))).trans (h.fD j hj), h.met.keep eM, ?_, fun g q => ?_, h.d23, h.d2M, h.d3M, h.dD, ?_, h.b2, h.b3, h.bM, h.bb, Nat.le_trans h.lb hg.size⟩
  · simp only [List.length_append, List.length_cons, List.length_nil, List.flatMap_append, List.flatMap_cons, List.flatMap_nil, List.append_nil]
    exact hown
  · rcases hat with q2 | q2
    · exact h.hT g (q2 ▸ q)
    · rw [q2] at q
      injection q with q
      subst q
      exact ⟨fr.1, fr.2.1, fr.2.2.1, fr.2.2.2.1⟩
  · exact h.bel.grown hg h.bel.size (fun g q => Nat.le_trans h.bb (h.own.lt g q).1)

/-- The last one is taken. -/
theorem RfAt.pop {g cap p : Nat} {T0 : List Pl} {x : Pl} (h : RfAt W w K (.slice (some ⟨g, 0, none⟩) (p + 1) cap) s) (hT : s.T = T0 ++ [x]) (hp : T0.length = p) : RfAt W w K (.slice (some ⟨g, 0, none⟩) p cap) { s with T := T0 } := by
  have hown : w.ownsRow K.base 85 3 (.slice (some ⟨g, 0, none⟩) p cap) T0.length (T0.flatMap plC) := by
    have h1 := h.own
    rw [hT] at h1
    have hlen : ∀ q : List Pl, (q.flatMap plC).length = q.length * 3 := by
      intro q
      induction q with
      | nil => rfl
      | cons y q ih => simp only [List.flatMap_cons, List.length_append, List.length_cons, plC, ih, List.length_nil]; omega
    rcases h1.2 with ⟨q, _⟩ | ⟨g', cap', cur, q, h2, h3, h4, h5, h6, h7⟩
    · cases q
    · injection q with q1 q2 q3
      injection q1 with q1
      injection q1 with q1
      subst q1; subst q3
      refine ⟨hlen T0, .inr ⟨g, cap, cur, by rw [hp], h2, h3, by omega, h5, h6, ?_⟩⟩
      rw [List.flatMap_append] at h7
      have h8 : (cur.toList.take ((T0 ++ [x]).length * 3)).take (T0.length * 3) = cur.toList.take (T0.length * 3) := by
        rw [List.take_take]
        congr 1
        simp only [List.length_append, List.length_cons, List.length_nil]
        omega
      rw [← h8, h7]
      exact List.take_left' (hlen T0)
  exact ⟨h.r0, h.r1, h.r2, h.r3, h.r4, h.r5, h.rf, h.k0, h.k1, h.k2, h.k3, h.k4, h.k5, h.kf, h.hA, h.dl, h.hc, h.cD, h.fD, h.met, hown, h.hT, h.d23, h.d2M, h.d3M, h.dD, h.bel, h.b2, h.b3, h.bM, h.bb, h.lb⟩

/-- The last one's cells. -/
theorem RfAt.last {g cap p : Nat} {T0 : List Pl} {x : Pl} (h : RfAt W w K (.slice (some ⟨g, 0, none⟩) (p + 1) cap) s) (hT : s.T = T0 ++ [x]) (hp : T0.length = p) :
    w.cell? ⟨g, p * 3, none⟩ = some (.int .i64 x.1) ∧ w.cell? ⟨g, p * 3 + 1, none⟩ = some (.int .i64 x.2.1) ∧ w.cell? ⟨g, p * 3 + 2, none⟩ = some (.int .i64 x.2.2) ∧ p + 1 ≤ cap := by
  have h1 := h.own
  rw [hT] at h1
  have hl : (T0 ++ [x]).length = p + 1 := by simp [hp]
  rw [hl] at h1
  have hlen : ∀ q : List Pl, (q.flatMap plC).length = q.length * 3 := by
    intro q
    induction q with
    | nil => rfl
    | cons y q ih => simp only [List.flatMap_cons, List.length_append, List.length_cons, plC, ih, List.length_nil]; omega
  have hc := h1.cellAt
  have hx : ∀ j, j < 3 → ((T0 ++ [x]).flatMap plC)[p * 3 + j]? = (plC x)[j]? := fun j hj => by
    rw [List.flatMap_append, List.getElem?_append_right (by rw [hlen, hp]; omega), hlen, hp]
    simp [List.flatMap_cons]
  refine ⟨?_, ?_, ?_, ?_⟩
  · rw [hc _ (by omega)]; exact hx 0 (by omega)
  · rw [hc _ (by omega)]; exact hx 1 (by omega)
  · rw [hc _ (by omega)]; exact hx 2 (by omega)
  · rcases h1.2 with ⟨q, _⟩ | ⟨g', cap', cur, q, h2, h3, h4, h5, h6, h7⟩
    · cases q
    · injection q with q1 q2 q3; omega

end

end Go.Proofs.YtfhlpbjdcdagjaaGreatDoor

namespace Go.Proofs.YtfhlpbjdcdagjaaGreatDoor
open Go.RowKit
set_option linter.unusedVariables false
set_option maxRecDepth 100000

abbrev knV (v : Value) (mx em : Int) (u0 u1 ok : Bool) : Value := .agg #[v, .int .i64 mx, .int .i64 em, .bool u0, .bool u1, .bool ok]

def RefPost (W : World) (q : Option CkS) (r : Ending) (w' : World) : Prop :=
  match q with
  | some s => ∃ v, r = .returned (knV v s.mx s.em s.u0 s.u1 true) ∧ SlI w' w'.heap.size .i64 v s.D ∧ Below W.heap.size W w'
  | none => r = .returned (knV (.slice none 0 0) 0 0 false false false) ∧ Below W.heap.size W w'

theorem refpost_ok {W w' : World} {q : Option CkS} {s : CkS} {v : Value} (h : Hid (q = some s)) (h1 : SlI w' w'.heap.size .i64 v s.D) (h2 : Below W.heap.size W w') : RefPost W q (.returned (knV v s.mx s.em s.u0 s.u1 true)) w' := by
  rw [h.out]; exact ⟨v, rfl, h1, h2⟩

theorem refpost_no {W w' : World} {q : Option CkS} (h : Hid (q = none)) (h2 : Below W.heap.size W w') : RefPost W q (.returned (knV (.slice none 0 0) 0 0 false false false)) w' := by
  rw [h.out]; exact ⟨rfl, h2⟩

theorem box6_of (w : World) (t : TypeId) (a b c d e f : Value) : ∃ W : World, w.alloc (.cells #[a, b, c, d, e, f] t) = W ∧
    (W.cell? ⟨w.heap.size, 0, none⟩ = some a ∧ W.cell? ⟨w.heap.size, 1, none⟩ = some b ∧ W.cell? ⟨w.heap.size, 2, none⟩ = some c ∧ W.cell? ⟨w.heap.size, 3, none⟩ = some d ∧ W.cell? ⟨w.heap.size, 4, none⟩ = some e ∧ W.cell? ⟨w.heap.size, 5, none⟩ = some f) ∧
    (∀ j, W.frozen? ⟨w.heap.size, j, none⟩ = false) ∧ W.heap.size = w.heap.size + 1 ∧ Hid (Below w.heap.size w W) := by
  refine ⟨_, rfl, ⟨?_, ?_, ?_, ?_, ?_, ?_⟩, fun j => ?_, ?_, hid ((Below.refl _ w).alloc (Nat.le_refl _) _)⟩
  all_goals simp [World.frozen?_alloc_new]

theorem below_set6 {B g : Nat} {w w' : World} (h : Below B w w') (hg : B ≤ g) (a b c d e f : Value) : Below B w ((((((w'.setCell ⟨g, 0, none⟩ a).setCell ⟨g, 1, none⟩ b).setCell ⟨g, 2, none⟩ c).setCell ⟨g, 3, none⟩ d).setCell ⟨g, 4, none⟩ e).setCell ⟨g, 5, none⟩ f) :=
  (((((h.setCell hg _).setCell hg _).setCell hg _).setCell hg _).setCell hg _).setCell hg _

theorem set6_other {g x : Nat} (w : World) (j : Nat) (h : x ≠ g) (a b c d e f : Value) : ((((((w.setCell ⟨g, 0, none⟩ a).setCell ⟨g, 1, none⟩ b).setCell ⟨g, 2, none⟩ c).setCell ⟨g, 3, none⟩ d).setCell ⟨g, 4, none⟩ e).setCell ⟨g, 5, none⟩ f).cell? ⟨x, j, none⟩ = w.cell? ⟨x, j, none⟩ := by
  have o : ∀ (w : World) (i : Nat) (v : Value), (w.setCell ⟨g, i, none⟩ v).cell? ⟨x, j, none⟩ = w.cell? ⟨x, j, none⟩ := fun w i v => World.cell?_setCell_other _ _ _ _ (by intro e; injection e with e1; exact h e1.symm)
  rw [o, o, o, o, o, o]

/-- While the depths are laid. -/
structure R0At (W w : World) (g2 g3 bM gT base k : Nat) (v : Value) : Prop where
  r0 : w.cell? ⟨g2, 0, none⟩ = some (.slice none 0 0)
  r1 : w.cell? ⟨g2, 1, none⟩ = some (.int .i64 0)
  r2 : w.cell? ⟨g2, 2, none⟩ = some (.int .i64 0)
  r3 : w.cell? ⟨g2, 3, none⟩ = some (.bool false)
  r4 : w.cell? ⟨g2, 4, none⟩ = some (.bool false)
  r5 : w.cell? ⟨g2, 5, none⟩ = some (.bool false)
  rf : ∀ j, w.frozen? ⟨g2, j, none⟩ = false
  k0 : w.cell? ⟨g3, 0, none⟩ = some v
  k1 : w.cell? ⟨g3, 1, none⟩ = some (.int .i64 0)
  k2 : w.cell? ⟨g3, 2, none⟩ = some (.int .i64 0)
  k3 : w.cell? ⟨g3, 3, none⟩ = some (.bool false)
  k4 : w.cell? ⟨g3, 4, none⟩ = some (.bool false)
  k5 : w.cell? ⟨g3, 5, none⟩ = some (.bool true)
  kf : ∀ j, w.frozen? ⟨g3, j, none⟩ = false
  own : w.ownsRow base 3 1 v k (List.replicate k (.int .i64 (-1)))
  met : MapAt w bM []
  oT : w.heap[gT]? = some (.cells #[.int .i64 0, .int .i64 0, .int .i64 0] 85 (0, 0))
  d23 : g2 < g3
  d3M : g3 < bM
  dMT : bM < gT
  dT : gT < base
  lt : base ≤ w.heap.size
  bel : Below W.heap.size W w
  b2 : W.heap.size ≤ g2

theorem r0_new {W V : World} {g2 : Nat} (hb : Hid (Below W.heap.size W V)) (r0 : V.cell? ⟨g2, 0, none⟩ = some (.slice none 0 0)) (r1 : V.cell? ⟨g2, 1, none⟩ = some (.int .i64 0)) (r2 : V.cell? ⟨g2, 2, none⟩ = some (.int .i64 0)) (r3 : V.cell? ⟨g2, 3, none⟩ = some (.bool false)) (r4 : V.cell? ⟨g2, 4, none⟩ = some (.bool false)) (r5 : V.cell? ⟨g2, 5, none⟩ = some (.bool false))
    (rf : ∀ j, V.frozen? ⟨g2, j, none⟩ = false) (b2 : W.heap.size ≤ g2) :
    Hid (R0At W (((V.alloc (.cells #[.slice none 0 0, .int .i64 0, .int .i64 0, .bool false, .bool false, .bool true] 52)).alloc (.map #[] 0)).alloc (.cells #[.int .i64 0, .int .i64 0, .int .i64 0] 85)) g2 V.heap.size (V.heap.size + 1) (V.heap.size + 2) (V.heap.size + 3) 0 (.slice none 0 0)) := by
  have l2 : g2 < V.heap.size := World.block_lt_of_cell? V _ r0
  obtain ⟨V1, hV1, ⟨q0, q1, q2, q3, q4, q5⟩, qf, qs, HV1⟩ := box6_of V 52 (.slice none 0 0) (.int .i64 0) (.int .i64 0) (.bool false) (.bool false) (.bool true)
  rw [hV1]
  have hM := MapAt.new V1
  have hB2 := ((Below.refl V1.heap.size V1).alloc (Nat.le_refl _) (.map #[] 0)).alloc (by simp) (.cells #[.int .i64 0, .int .i64 0, .int .i64 0] 85)
  have c1 := (bcell HV1.out).1; have f1 := (bcell HV1.out).2
  have c2 := (bcell hB2).1; have f2 := (bcell hB2).2
  have e1 : (V1.alloc (.map #[] 0)).heap.size = V.heap.size + 2 := by rw [World.size_alloc, qs]
  have cc : ∀ j, (((V1.alloc (.map #[] 0)).alloc (.cells #[.int .i64 0, .int .i64 0, .int .i64 0] 85))).cell? ⟨g2, j, none⟩ = V.cell? ⟨g2, j, none⟩ := fun j => (c2 _ _ (by omega)).trans (c1 _ _ l2)
  have ck : ∀ j, (((V1.alloc (.map #[] 0)).alloc (.cells #[.int .i64 0, .int .i64 0, .int .i64 0] 85))).cell? ⟨V.heap.size, j, none⟩ = V1.cell? ⟨V.heap.size, j, none⟩ := fun j => c2 _ _ (by omega)
  refine hid ⟨(cc _).trans r0, (cc _).trans r1, (cc _).trans r2, (cc _).trans r3, (cc _).trans r4, (cc _).trans r5, fun j => ((f2 _ _ (by omega)).trans (f1 _ _ l2)).trans (rf j),
    (ck _).trans q0, (ck _).trans q1, (ck _).trans q2, (ck _).trans q3, (ck _).trans q4, (ck _).trans q5, fun j => (f2 _ _ (by omega)).trans (qf j), World.ownsRow_nil _ _ _ _, ?_, ?_, l2, by omega, by omega, by omega, by rw [World.size_alloc, e1]; omega, ?_, b2⟩
  · have := hM.alloc (.cells #[.int .i64 0, .int .i64 0, .int .i64 0] 85)
    rw [qs] at this
    exact this
  · have := heap_alloc_new (V1.alloc (.map #[] 0)) (.cells #[.int .i64 0, .int .i64 0, .int .i64 0] 85)
    rw [e1] at this
    exact this
  · have h1 := hb.out.trans (HV1.out.mono hb.out.size)
    exact h1.trans (hB2.mono h1.size)

theorem R0At.low {W wr w3 : World} {g2 g3 bM gT base k : Nat} {v : Value} {o : Obj} (h : Hid (R0At W wr g2 g3 bM gT base k v)) (hg : (wr.alloc o).grownBy w3 v.ownBlock) : ∀ x, x < base → w3.heap[x]? = wr.heap[x]? := by
  intro x hx
  have hlt := h.out.lt
  rw [hg.block x (by rw [World.size_alloc]; omega) (fun e => by have := (h.out.own.lt x e.symm).1; omega)]
  exact Below.heap_alloc _ _ _ (by omega)

theorem r0_step {W wr w3 : World} {g2 g3 bM gT base k g cap : Nat} {v : Value} {o : Obj} (h : Hid (R0At W wr g2 g3 bM gT base k v)) (hg : (wr.alloc o).grownBy w3 v.ownBlock)
    (hown : w3.ownsRow base 3 1 (.slice (some ⟨g, 0, none⟩) (k + 1) cap) (k + 1) (List.replicate k (.int .i64 (-1)) ++ [.int .i64 (-1)])) (hgb : base ≤ g) :
    Hid (R0At W (w3.setCell ⟨g3, 0, none⟩ (.slice (some ⟨g, 0, none⟩) (k + 1) cap)) g2 g3 bM gT base (k + 1) (.slice (some ⟨g, 0, none⟩) (k + 1) cap)) := by
  have low := R0At.low h hg
  have d1 := h.out.d23; have d2 := h.out.d3M; have d3 := h.out.dMT; have d4 := h.out.dT; have d5 := h.out.lt; have d6 := h.out.b2
  have o1 : ∀ x j, x < base → (x = g3 → j ≠ 0) → (w3.setCell ⟨g3, 0, none⟩ (.slice (some ⟨g, 0, none⟩) (k + 1) cap)).cell? ⟨x, j, none⟩ = wr.cell? ⟨x, j, none⟩ := fun x j hx hj => by
    rw [World.cell?_setCell_other _ _ _ _ (by intro e; injection e with e1 e2; exact hj e1.symm e2.symm)]
    exact World.cell?_of_block (low x hx)
  have o2 : ∀ x j, x < base → (w3.setCell ⟨g3, 0, none⟩ (.slice (some ⟨g, 0, none⟩) (k + 1) cap)).frozen? ⟨x, j, none⟩ = wr.frozen? ⟨x, j, none⟩ := fun x j hx => by
    rw [World.frozen?_setCell]; exact World.frozen?_of_block (low x hx)
  refine hid ⟨(o1 _ _ (by omega) (by omega)).trans h.out.r0, (o1 _ _ (by omega) (by omega)).trans h.out.r1, (o1 _ _ (by omega) (by omega)).trans h.out.r2, (o1 _ _ (by omega) (by omega)).trans h.out.r3, (o1 _ _ (by omega) (by omega)).trans h.out.r4, (o1 _ _ (by omega) (by omega)).trans h.out.r5, fun j => (o2 _ _ (by omega)).trans (h.out.rf j),
    ?_, (o1 _ _ (by omega) (by omega)).trans h.out.k1, (o1 _ _ (by omega) (by omega)).trans h.out.k2, (o1 _ _ (by omega) (by omega)).trans h.out.k3, (o1 _ _ (by omega) (by omega)).trans h.out.k4, (o1 _ _ (by omega) (by omega)).trans h.out.k5, fun j => (o2 _ _ (by omega)).trans (h.out.kf j), ?_, ?_, ?_, d1, d2, d3, d4, ?_, ?_, d6⟩
  · rw [World.cell?_setCell_same _ _ _ ((World.cell?_of_block (low g3 (by omega))).trans h.out.k0)]
  · rw [List.replicate_succ']
    exact hown.kept (turned_set (turned_refl w3 (some g3)) (.inl rfl) _) (.inr (by simp only [Value.ownBlock]; intro e; injection e with e; omega))
  · exact (h.out.met.keep (low _ (by omega))).setCell (by simp only; omega) _
  · rw [Below.heap_setCell _ _ _ _ (by simp only; omega), low _ (by omega)]
    exact h.out.oT
  · have := hg.size
    simp at *
    omega
  · have h1 := h.out.bel.alloc h.out.bel.size o
    have h2 := h1.grown hg h1.size (fun x hx => by
      have := (h.out.own.lt x hx).1
      omega)
    exact h2.setCell (by simp only; omega) _

theorem r0_done {W w : World} {g2 g3 bM gT base n : Nat} {v : Value} (h : Hid (R0At W w g2 g3 bM gT base n v)) :
    ∃ K : RfK, K.g2 = g2 ∧ K.g3 = g3 ∧ K.bM = bM ∧ K.n = n ∧ v = .slice K.A n K.c ∧ RfAt W w K (.slice (some ⟨gT, 0, none⟩) 1 1) ⟨[], [(0, 0, 0)], List.replicate n (-1), 0, 0, false, false⟩ := by
  have d1 := h.out.d23; have d2 := h.out.d3M; have d3 := h.out.dMT; have d4 := h.out.dT; have d5 := h.out.lt; have d6 := h.out.b2
  have hr1 : ∀ j, j < n → (List.replicate n (-1 : Int)).getD j 0 = -1 := fun j hj => by simp [List.getD_eq_getElem?_getD, hj]
  have hT : w.ownsRow W.heap.size 85 3 (.slice (some ⟨gT, 0, none⟩) 1 1) 1 ([(0, 0, 0)].flatMap plC) :=
    ⟨by simp [plC], .inr ⟨gT, 1, _, rfl, by omega, h.out.oT, Nat.le_refl _, by unfold maxLen; omega, by simp, by simp [plC]⟩⟩
  by_cases hn : 0 < n
  · obtain ⟨g, cap, rfl, hg0, hg1, hc, hm, hcell, hfr⟩ := own_cell h.out.own hn
    refine ⟨⟨g2, g3, bM, g, W.heap.size, n, cap, some ⟨g, 0, none⟩⟩, rfl, rfl, rfl, rfl, rfl, ⟨h.out.r0, h.out.r1, h.out.r2, h.out.r3, h.out.r4, h.out.r5, h.out.rf, h.out.k0, h.out.k1, h.out.k2, h.out.k3, h.out.k4, h.out.k5, h.out.kf, fun _ => rfl, by simp, hc, fun j hj => ?_, fun j hj => hfr j, h.out.met, hT, ?_, ?_, ?_, ?_, ?_, h.out.bel, d6, ?_, ?_, Nat.le_refl _, h.out.bel.size⟩⟩
    · simp only
      simp only at hj
      rw [hcell j (by omega), hr1 j hj]
      simp [hj]
    · intro x hx
      simp only [Value.ownBlock, Option.some.injEq] at hx
      subst hx
      exact ⟨by simp only; omega, by simp only; omega, by simp only; omega, fun _ => by simp only; omega⟩
    · simp only; omega
    · simp only; omega
    · simp only; omega
    · intro _; refine ⟨?_, ?_, ?_, ?_⟩ <;> simp only <;> omega
    · simp only; omega
    · simp only; omega
  · obtain rfl : n = 0 := by omega
    obtain ⟨A, c, hv⟩ := own_form h.out.own
    subst hv
    refine ⟨⟨g2, g3, bM, 0, W.heap.size, 0, c, A⟩, rfl, rfl, rfl, rfl, rfl, ⟨h.out.r0, h.out.r1, h.out.r2, h.out.r3, h.out.r4, h.out.r5, h.out.rf, h.out.k0, h.out.k1, h.out.k2, h.out.k3, h.out.k4, h.out.k5, h.out.kf, fun q => absurd q (by simp), by simp, by simp, fun j hj => absurd hj (by simp), fun j hj => absurd hj (by simp), h.out.met, hT, ?_, ?_, ?_, ?_, fun q => absurd q (by simp), h.out.bel, d6, ?_, ?_, Nat.le_refl _, h.out.bel.size⟩⟩
    · intro x hx
      simp only [Value.ownBlock, Option.some.injEq] at hx
      subst hx
      exact ⟨by simp only; omega, by simp only; omega, by simp only; omega, fun q => absurd q (by simp)⟩
    · simp only; omega
    · simp only; omega
    · simp only; omega
    · simp only; omega
    · simp only; omega

end Go.Proofs.YtfhlpbjdcdagjaaGreatDoor

namespace Go.Proofs.YtfhlpbjdcdagjaaGreatDoor
open Go.RowKit
set_option linter.unusedVariables false
set_option maxRecDepth 100000

theorem i64_small {n : Int} (h0 : -1000000 ≤ n) (h1 : n ≤ 1000000) : (Lit.int .i64 n).wf = true := by
  simp [Lit.wf, IntKind.min, IntKind.max, IntKind.signed, IntKind.bits]
  omega

theorem rch_wf {l : List (Int × Int)} (h24 : l.length ≤ 24) {x : Pl} (h : ∃ t : Nat, x.1 = t ∧ Rch l t x.2.1 x.2.2) : Wf3 x := by
  obtain ⟨t, h1, h2⟩ := h
  have := rch_bounds h2
  have := rch_le h2
  exact ⟨i64_small (by omega) (by omega), i64_small (by omega) (by omega), i64_small (by omega) (by omega)⟩

theorem zeroBool (w : World) : (zeroValue 4).run Tryz.prog w = .ok (.bool false) w := by kernel_rfl

theorem met_keys {M : List Pl} (h : ∀ y ∈ M, Wf3 y) : ∀ p ∈ metL M, ∃ i, keyOf Tryz.prog 85 p.1 = some i := by
  intro p hp
  obtain ⟨y, hy, rfl⟩ := List.mem_map.1 hp
  exact key_pl (h y hy)

theorem plV_inj {x y : Pl} (h : plV x = plV y) : x = y := by
  obtain ⟨a, b, c⟩ := x
  obtain ⟨a', b', c'⟩ := y
  simp at h
  simp [h]

theorem met_look {X : World} {bM : Nat} {M : List Pl} (h : MapAt X bM (metL M)) (hw : ∀ y ∈ M, Wf3 y) {x : Pl} (hx : Wf3 x) (β : Bool) (hβ : β = true ↔ x ∈ M) :
    (Instr.lookup 83 (.map (some bM)) (plV x) false).run Tryz.prog X = .ok (.bool β) X := by
  obtain ⟨kl, hkl⟩ := key_pl hx
  rcases h.look keyedPl Tryz.underlying83 (zeroBool X) (met_keys hw) hkl with ⟨v, hv, hr⟩ | ⟨hno, hr⟩
  · rw [hr]
    obtain ⟨y, hy, e⟩ := List.mem_map.1 hv
    injection e with e1 e2
    have := plV_inj e1
    subst this
    rw [← e2, hβ.2 hy]
  · rw [hr]
    have : x ∉ M := fun q => hno (plV x, .bool true) (List.mem_map.2 ⟨x, q, rfl⟩) rfl
    cases β with
    | false => rfl
    | true => exact absurd (hβ.1 rfl) this

/-- In a round: the place's own box gx. -/
structure RnAt (W w : World) (K : RfK) (vT : Value) (s : RfS) (gx : Nat) (t d e : Int) : Prop where
  rf : RfAt W w K vT s
  x0 : w.cell? ⟨gx, 0, none⟩ = some (.int .i64 t)
  x1 : w.cell? ⟨gx, 1, none⟩ = some (.int .i64 d)
  x2 : w.cell? ⟨gx, 2, none⟩ = some (.int .i64 e)
  fr : Fr W K vT gx

section
variable {W w w' : World} {K : RfK} {vT : Value} {s : RfS} {gx : Nat} {t d e : Int}

theorem RnAt.start (h : RfAt W w K vT s) (t d e : Int) : RnAt W (w.alloc (.cells #[.int .i64 t, .int .i64 d, .int .i64 e] 85)) K vT s w.heap.size t d e :=
  ⟨h.alloc _, by simp, by simp, by simp, h.fresh⟩

theorem RnAt.lx (h : RnAt W w K vT s gx t d e) : gx < w.heap.size := World.block_lt_of_cell? w _ h.x0

theorem RnAt.setK (h : RnAt W w K vT s gx t d e) (s' : RfS) (hM : s'.M = s.M) (hT' : s'.T = s.T) (hD : s'.D = s.D) (i : Nat) (v : Value) (i1 : 1 ≤ i) (i4 : i ≤ 4)
    (h1 : (if i = 1 then v else .int .i64 s.mx) = .int .i64 s'.mx) (h2 : (if i = 2 then v else .int .i64 s.em) = .int .i64 s'.em) (h3 : (if i = 3 then v else .bool s.u0) = .bool s'.u0) (h4 : (if i = 4 then v else .bool s.u1) = .bool s'.u1) :
    RnAt W (w.setCell ⟨K.g3, i, none⟩ v) K vT s' gx t d e := by
  have o1 : ∀ j, (w.setCell ⟨K.g3, i, none⟩ v).cell? ⟨gx, j, none⟩ = w.cell? ⟨gx, j, none⟩ := fun j => World.cell?_setCell_other _ _ _ _ (by intro e; injection e with e1; exact h.fr.2.1 e1.symm)
  exact ⟨h.rf.setK s' hM hT' hD i v i1 i4 h1 h2 h3 h4, (o1 _).trans h.x0, (o1 _).trans h.x1, (o1 _).trans h.x2, h.fr⟩

theorem RnAt.setD (h : RnAt W w K vT s gx t d e) {k : Nat} (hk : k < K.n) (z : Int) : RnAt W (w.setCell ⟨K.gD, k, none⟩ (.int .i64 z)) K vT { s with D := s.D.set k z } gx t d e := by
  have o1 : ∀ j, (w.setCell ⟨K.gD, k, none⟩ (.int .i64 z)).cell? ⟨gx, j, none⟩ = w.cell? ⟨gx, j, none⟩ := fun j => World.cell?_setCell_other _ _ _ _ (by intro e; injection e with e1; exact h.fr.2.2.2.1 (by omega) e1.symm)
  exact ⟨h.rf.setD hk z, (o1 _).trans h.x0, (o1 _).trans h.x1, (o1 _).trans h.x2, h.fr⟩

theorem RnAt.setM (h : RnAt W w K vT s gx t d e) (hg : w.grownBy w' (some K.bM)) (x : Pl) (hm : MapAt w' K.bM (metL s.M ++ [(plV x, .bool true)])) : RnAt W w' K vT { s with M := s.M ++ [x] } gx t d e := by
  have hne : some gx ≠ some K.bM := fun q => by injection q with q; exact h.fr.2.2.1 q
  exact ⟨h.rf.setM hg x hm, hg.cell h.x0 hne, hg.cell h.x1 hne, hg.cell h.x2 hne, h.fr⟩

theorem RnAt.grown {row : Option Nat} (h : RnAt W w K vT s gx t d e) (hg : w.grownBy w' row) (hr : ∀ g, row = some g → Fr W K vT g ∧ g ≠ gx) : RnAt W w' K vT s gx t d e := by
  have hne : some gx ≠ row := fun q => (hr gx q.symm).2 rfl
  exact ⟨h.rf.grown hg (fun g q => (hr g q).1), hg.cell h.x0 hne, hg.cell h.x1 hne, hg.cell h.x2 hne, h.fr⟩

theorem RnAt.drew (h : RnAt W w K vT s gx t d e) : RnAt W w.drew K vT s gx t d e := ⟨h.rf.drew, h.x0, h.x1, h.x2, h.fr⟩
theorem RnAt.drewN (h : RnAt W w K vT s gx t d e) (n : Nat) : RnAt W (w.drewN n) K vT s gx t d e := ⟨h.rf.drewN n, h.x0, h.x1, h.x2, h.fr⟩
end

/-- .. and the next place's box gy. -/
structure YnAt (W w : World) (K : RfK) (vT : Value) (s : RfS) (gx : Nat) (t d e : Int) (gy : Nat) (a b c : Int) : Prop where
  rn : RnAt W w K vT s gx t d e
  y0 : w.cell? ⟨gy, 0, none⟩ = some (.int .i64 a)
  y1 : w.cell? ⟨gy, 1, none⟩ = some (.int .i64 b)
  y2 : w.cell? ⟨gy, 2, none⟩ = some (.int .i64 c)
  yf : ∀ j, w.frozen? ⟨gy, j, none⟩ = false
  fr : Fr W K vT gy
  ne : gy ≠ gx

/-- .. and the far one's box gz. -/
structure ZnAt (W w : World) (K : RfK) (vT : Value) (s : RfS) (gx : Nat) (t d e : Int) (gy : Nat) (a b c : Int) (gz : Nat) (z : Int) : Prop where
  yn : YnAt W w K vT s gx t d e gy a b c
  z0 : w.cell? ⟨gz, 0, none⟩ = some (.int .i64 z)
  z1 : w.cell? ⟨gz, 1, none⟩ = some (.int .i64 b)
  z2 : w.cell? ⟨gz, 2, none⟩ = some (.int .i64 c)
  zf : ∀ j, w.frozen? ⟨gz, j, none⟩ = false
  fr : Fr W K vT gz
  nx : gz ≠ gx
  ny : gz ≠ gy

section
variable {W w w' : World} {K : RfK} {vT : Value} {s : RfS} {gx gy gz : Nat} {t d e a b c z : Int}

theorem YnAt.start (h : RnAt W w K vT s gx t d e) (a b c : Int) : YnAt W (w.alloc (.cells #[.int .i64 a, .int .i64 b, .int .i64 c] 85)) K vT s gx t d e w.heap.size a b c :=
  ⟨h.grown (World.grownBy_alloc w _ none) (fun g q => by cases q), by simp, by simp, by simp, fun j => by rw [World.frozen?_alloc_new], h.rf.fresh, by have := h.lx; omega⟩

theorem YnAt.ly (h : YnAt W w K vT s gx t d e gy a b c) : gy < w.heap.size := World.block_lt_of_cell? w _ h.y0

theorem YnAt.drew (h : YnAt W w K vT s gx t d e gy a b c) : YnAt W w.drew K vT s gx t d e gy a b c := ⟨h.rn.drew, h.y0, h.y1, h.y2, h.yf, h.fr, h.ne⟩

theorem YnAt.set2 (h : YnAt W w K vT s gx t d e gy a b c) (c' : Int) : YnAt W (w.setCell ⟨gy, 2, none⟩ (.int .i64 c')) K vT s gx t d e gy a b c' := by
  have hg := turned_set (p := ⟨gy, 2, none⟩) (turned_refl w (some gy)) (.inl rfl) (.int .i64 c')
  have o2 : ∀ j, j ≠ 2 → (w.setCell ⟨gy, 2, none⟩ (.int .i64 c')).cell? ⟨gy, j, none⟩ = w.cell? ⟨gy, j, none⟩ := fun j hj => World.cell?_setCell_other _ _ _ _ (by intro e; injection e with e1 e2; exact hj e2.symm)
  exact ⟨h.rn.grown hg (fun g q => by injection q with q; subst q; exact ⟨h.fr, h.ne⟩), (o2 0 (by omega)).trans h.y0, (o2 1 (by omega)).trans h.y1, World.cell?_setCell_same _ _ _ h.y2, fun j => by rw [World.frozen?_setCell]; exact h.yf j, h.fr, h.ne⟩

theorem ZnAt.start (h : YnAt W w K vT s gx t d e gy a b c) : ZnAt W (w.alloc (.cells #[.int .i64 a, .int .i64 b, .int .i64 c] 85)) K vT s gx t d e gy a b c w.heap.size a := by
  have hb := (Below.refl w.heap.size w).alloc (Nat.le_refl _) (.cells #[.int .i64 a, .int .i64 b, .int .i64 c] 85)
  have hc := (bcell hb).1; have hf := (bcell hb).2
  have ly := h.ly
  exact ⟨⟨h.rn.grown (World.grownBy_alloc w _ none) (fun g q => by cases q), (hc _ _ ly).trans h.y0, (hc _ _ ly).trans h.y1, (hc _ _ ly).trans h.y2, fun j => (hf _ _ ly).trans (h.yf j), h.fr, h.ne⟩,
    by simp, by simp, by simp, fun j => by rw [World.frozen?_alloc_new], h.rn.rf.fresh, by have := h.rn.lx; omega, by omega⟩

theorem ZnAt.drew (h : ZnAt W w K vT s gx t d e gy a b c gz z) : ZnAt W w.drew K vT s gx t d e gy a b c gz z := ⟨h.yn.drew, h.z0, h.z1, h.z2, h.zf, h.fr, h.nx, h.ny⟩

theorem ZnAt.set0 (h : ZnAt W w K vT s gx t d e gy a b c gz z) (z' : Int) : ZnAt W (w.setCell ⟨gz, 0, none⟩ (.int .i64 z')) K vT s gx t d e gy a b c gz z' := by
  have hg := turned_set (p := ⟨gz, 0, none⟩) (turned_refl w (some gz)) (.inl rfl) (.int .i64 z')
  have o1 : ∀ j, (w.setCell ⟨gz, 0, none⟩ (.int .i64 z')).cell? ⟨gy, j, none⟩ = w.cell? ⟨gy, j, none⟩ := fun j => World.cell?_setCell_other _ _ _ _ (by intro e; injection e with e1 e2; exact h.ny e1)
  have o2 : ∀ j, j ≠ 0 → (w.setCell ⟨gz, 0, none⟩ (.int .i64 z')).cell? ⟨gz, j, none⟩ = w.cell? ⟨gz, j, none⟩ := fun j hj => World.cell?_setCell_other _ _ _ _ (by intro e; injection e with e1 e2; exact hj e2.symm)
  exact ⟨⟨h.yn.rn.grown hg (fun g q => by injection q with q; subst q; exact ⟨h.fr, h.nx⟩), (o1 _).trans h.yn.y0, (o1 _).trans h.yn.y1, (o1 _).trans h.yn.y2, fun j => by rw [World.frozen?_setCell]; exact h.yn.yf j, h.yn.fr, h.yn.ne⟩,
    World.cell?_setCell_same _ _ _ h.z0, (o2 1 (by omega)).trans h.z1, (o2 2 (by omega)).trans h.z2, fun j => by rw [World.frozen?_setCell]; exact h.zf j, h.fr, h.nx, h.ny⟩
end

def farZ (n : Nat) (t : Nat) (a : Int) : Int := if (n : Int) < (t : Int) + 1 + a then n else (t : Int) + 1 + a

theorem news_0 {l : List (Int × Int)} {t : Nat} {d e : Int} (h : opAt l t = 0) : newsL l t d e = [] := by
  unfold newsL sucL nextN; rw [if_pos h]; rfl
theorem news_15 {l : List (Int × Int)} {t : Nat} {d e : Int} (h : opAt l t = 15) (ht : t < l.length) (ha : 0 ≤ arAt l t) : newsL l t d e = [((t : Int) + 1, leftI (opAt l t) d, e + emI (opAt l t)), (farZ l.length t (arAt l t), leftI (opAt l t) d, e + emI (opAt l t))] := by
  unfold newsL sucL nextN farZ
  rw [if_neg (by omega), if_pos h]
  simp only [List.map_cons, List.map_nil, List.cons.injEq, Prod.mk.injEq, and_true]
  refine ⟨by omega, ?_⟩
  split <;> omega
theorem news_16 {l : List (Int × Int)} {t : Nat} {d e : Int} (h : opAt l t = 16) (ht : t < l.length) (ha : 0 ≤ arAt l t) : newsL l t d e = [(farZ l.length t (arAt l t), leftI (opAt l t) d, e + emI (opAt l t))] := by
  unfold newsL sucL nextN farZ
  rw [if_neg (by omega), if_neg (by omega), if_pos h]
  simp only [List.map_cons, List.map_nil, List.cons.injEq, Prod.mk.injEq, and_true]
  split <;> omega
theorem news_else {l : List (Int × Int)} {t : Nat} {d e : Int} (h0 : opAt l t ≠ 0) (h15 : opAt l t ≠ 15) (h16 : opAt l t ≠ 16) (ht : t < l.length) : newsL l t d e = [((t : Int) + 1, leftI (opAt l t) d, e + emI (opAt l t))] := by
  unfold newsL sucL nextN
  rw [if_neg h0, if_neg h15, if_neg h16]
  simp only [List.map_cons, List.map_nil, List.cons.injEq, Prod.mk.injEq, and_true]
  omega

theorem plInfo : (Tryz.prog.info? 85).map (fun i => (i.zero, i.size, i.bytes)) = some (some (.agg #[.int .i64 0, .int .i64 0, .int .i64 0]), 3, 24) := by kernel_rfl

theorem three_new (w : World) (x : Pl) (t : TypeId) : ∀ j u, (plC x)[j]? = some u → (w.alloc (.cells #[.int .i64 x.1, .int .i64 x.2.1, .int .i64 x.2.2] t)).cell? ((⟨w.heap.size, 0, none⟩ : Addr).add j) = some u :=
  fun j u hj => new_cells w _ t j u (by simpa [plC] using hj)

theorem three_one (x : Pl) : ∀ u ∈ plC x, u.oneCell' = true := by
  intro u hu
  simp only [plC, List.mem_cons, List.not_mem_nil, or_false] at hu
  rcases hu with rfl | rfl | rfl <;> rfl

theorem not_good_none {l : List (Int × Int)} {q : Option CkS} (h : chk l = q) (hg : ¬ Good l) : q = none := by
  cases q with
  | none => rfl
  | some s => exact absurd (chk_some h).2.good hg

theorem sem_some {l : List (Int × Int)} {q : Option CkS} (hf : fitsL l = true) (h : chk l = q) {D : List Int} {mx em : Int} {u0 u1 : Bool} (hs : Sem l D mx em u0 u1) : ∃ s, q = some s ∧ s.D = D ∧ s.mx = mx ∧ s.em = em ∧ s.u0 = u0 ∧ s.u1 = u1 := by
  obtain ⟨s, h1, h2⟩ := chk_of_sem hf hs
  exact ⟨s, h ▸ h1, h2⟩

/-! ### The walk, cut into pieces: code from a region on, the frame at a cut -/

def startsAt (k : Nat) : Code → Bool
  | .region id _ _ => Nat.beq id k
  | .seq a _ => startsAt k a
  | _ => false

/-- The code from region k on, to its sequence's end. -/
def cutAt (k : Nat) : Code → Option Code
  | .region id ops b => bif Nat.beq id k then some (.region id ops b) else none
  | .seq a b => bif startsAt k a then some (.seq a b) else match cutAt k a with
    | some c => some c
    | none => cutAt k b
  | .block _ c => cutAt k c
  | .loop c => cutAt k c
  | .scope c => cutAt k c
  | .cond _ a b => match cutAt k a with
    | some c => some c
    | none => cutAt k b
  | _ => none

/-- Of the document's Check. -/
noncomputable def refCod (k : Nat) : Code := (Tryz.f12.body.bind (cutAt k)).getD .skip

/-- The frame at a cut: the program, the answer, what is known, what was met; two more by need. -/
structure FrAt (K : RfK) (x0 x5 x7 x8 : Value) (a : Act) : Prop where
  size : a.tmps.size = 194
  defers : a.defers = []
  t0 : a.tmps.getD 0 undef = x0
  t2 : a.tmps.getD 2 undef = .pointer (some ⟨K.g2, 0, none⟩)
  t3 : a.tmps.getD 3 undef = .pointer (some ⟨K.g3, 0, none⟩)
  t4 : a.tmps.getD 4 undef = .map (some K.bM)
  t5 : a.tmps.getD 5 undef = x5
  t7 : a.tmps.getD 7 undef = x7
  t8 : a.tmps.getD 8 undef = x8

set_option maxRecDepth 100000 in
theorem FrAt.open_ {K : RfK} {x0 x5 x7 x8 : Value} {a : Act} (h : FrAt K x0 x5 x7 x8 a) : ∃ u : Nat → Value, a = ⟨(x0 :: u 1 :: .pointer (some ⟨K.g2, 0, none⟩) :: .pointer (some ⟨K.g3, 0, none⟩) :: .map (some K.bM) :: x5 :: u 6 :: x7 :: x8 :: u 9 :: u 10 :: u 11 :: u 12 :: u 13 :: u 14 :: u 15 :: u 16 :: u 17 :: u 18 :: u 19 :: u 20 :: u 21 :: u 22 :: u 23 :: u 24 :: u 25 :: u 26 :: u 27 :: u 28 :: u 29 :: u 30 :: u 31 :: u 32 :: u 33 :: u 34 :: u 35 :: u 36 :: u 37 :: u 38 :: u 39 :: u 40 :: u 41 :: u 42 :: u 43 :: u 44 :: u 45 :: u 46 :: u 47 :: u 48 :: u 49 :: u 50 :: u 51 :: u 52 :: u 53 :: u 54 :: u 55 :: u 56 :: u 57 :: u 58 :: u 59 :: u 60 :: u 61 :: u 62 :: u 63 :: u 64 :: u 65 :: u 66 :: u 67 :: u 68 :: u 69 :: u 70 :: u 71 :: u 72 :: u 73 :: u 74 :: u 75 :: u 76 :: u 77 :: u 78 :: u 79 :: u 80 :: u 81 :: u 82 :: u 83 :: u 84 :: u 85 :: u 86 :: u 87 :: u 88 :: u 89 :: u 90 :: u 91 :: u 92 :: u 93 :: u 94 :: u 95 :: u 96 :: u 97 :: u 98 :: u 99 :: u 100 :: u 101 :: u 102 :: u 103 :: u 104 :: u 105 :: u 106 :: u 107 :: u 108 :: u 109 :: u 110 :: u 111 :: u 112 :: u 113 :: u 114 :: u 115 :: u 116 :: u 117 :: u 118 :: u 119 :: u 120 :: u 121 :: u 122 :: u 123 :: u 124 :: u 125 :: u 126 :: u 127 :: u 128 :: u 129 :: u 130 :: u 131 :: u 132 :: u 133 :: u 134 :: u 135 :: u 136 :: u 137 :: u 138 :: u 139 :: u 140 :: u 141 :: u 142 :: u 143 :: u 144 :: u 145 :: u 146 :: u 147 :: u 148 :: u 149 :: u 150 :: u 151 :: u 152 :: u 153 :: u 154 :: u 155 :: u 156 :: u 157 :: u 158 :: u 159 :: u 160 :: u 161 :: u 162 :: u 163 :: u 164 :: u 165 :: u 166 :: u 167 :: u 168 :: u 169 :: u 170 :: u 171 :: u 172 :: u 173 :: u 174 :: u 175 :: u 176 :: u 177 :: u 178 :: u 179 :: u 180 :: u 181 :: u 182 :: u 183 :: u 184 :: u 185 :: u 186 :: u 187 :: u 188 :: u 189 :: u 190 :: u 191 :: u 192 :: u 193 :: []).toArray, []⟩ := by
  obtain ⟨hn, hd, h0, h2, h3, h4, h5, h7, h8⟩ := h
  obtain ⟨u, hu⟩ : ∃ u : Nat → Value, u = fun k => a.tmps.getD k undef := ⟨_, rfl⟩
  have ha : a = ⟨(u 0 :: u 1 :: u 2 :: u 3 :: u 4 :: u 5 :: u 6 :: u 7 :: u 8 :: u 9 :: u 10 :: u 11 :: u 12 :: u 13 :: u 14 :: u 15 :: u 16 :: u 17 :: u 18 :: u 19 :: u 20 :: u 21 :: u 22 :: u 23 :: u 24 :: u 25 :: u 26 :: u 27 :: u 28 :: u 29 :: u 30 :: u 31 :: u 32 :: u 33 :: u 34 :: u 35 :: u 36 :: u 37 :: u 38 :: u 39 :: u 40 :: u 41 :: u 42 :: u 43 :: u 44 :: u 45 :: u 46 :: u 47 :: u 48 :: u 49 :: u 50 :: u 51 :: u 52 :: u 53 :: u 54 :: u 55 :: u 56 :: u 57 :: u 58 :: u 59 :: u 60 :: u 61 :: u 62 :: u 63 :: u 64 :: u 65 :: u 66 :: u 67 :: u 68 :: u 69 :: u 70 :: u 71 :: u 72 :: u 73 :: u 74 :: u 75 :: u 76 :: u 77 :: u 78 :: u 79 :: u 80 :: u 81 :: u 82 :: u 83 :: u 84 :: u 85 :: u 86 :: u 87 :: u 88 :: u 89 :: u 90 :: u 91 :: u 92 :: u 93 :: u 94 :: u 95 :: u 96 :: u 97 :: u 98 :: u 99 :: u 100 :: u 101 :: u 102 :: u 103 :: u 104 :: u 105 :: u 106 :: u 107 :: u 108 :: u 109 :: u 110 :: u 111 :: u 112 :: u 113 :: u 114 :: u 115 :: u 116 :: u 117 :: u 118 :: u 119 :: u 120 :: u 121 :: u 122 :: u 123 :: u 124 :: u 125 :: u 126 :: u 127 :: u 128 :: u 129 :: u 130 :: u 131 :: u 132 :: u 133 :: u 134 :: u 135 :: u 136 :: u 137 :: u 138 :: u 139 :: u 140 :: u 141 :: u 142 :: u 143 :: u 144 :: u 145 :: u 146 :: u 147 :: u 148 :: u 149 :: u 150 :: u 151 :: u 152 :: u 153 :: u 154 :: u 155 :: u 156 :: u 157 :: u 158 :: u 159 :: u 160 :: u 161 :: u 162 :: u 163 :: u 164 :: u 165 :: u 166 :: u 167 :: u 168 :: u 169 :: u 170 :: u 171 :: u 172 :: u 173 :: u 174 :: u 175 :: u 176 :: u 177 :: u 178 :: u 179 :: u 180 :: u 181 :: u 182 :: u 183 :: u 184 :: u 185 :: u 186 :: u 187 :: u 188 :: u 189 :: u 190 :: u 191 :: u 192 :: u 193 :: []).toArray, a.defers⟩ := by
    rw [hu]; exact frame_eq hn
  have e0 : u 0 = _ := (congrFun hu 0).trans h0
  have e2 : u 2 = _ := (congrFun hu 2).trans h2
  have e3 : u 3 = _ := (congrFun hu 3).trans h3
  have e4 : u 4 = _ := (congrFun hu 4).trans h4
  have e5 : u 5 = _ := (congrFun hu 5).trans h5
  have e7 : u 7 = _ := (congrFun hu 7).trans h7
  have e8 : u 8 = _ := (congrFun hu 8).trans h8
  rw [e0, e2, e3, e4, e5, e7, e8, hd] at ha
  exact ⟨u, ha⟩

/-- At the beginning of a round, n rounds at most to come. -/
structure RI (W : World) (l : List (Int × Int)) (K : RfK) (x0 : Value) (n : Nat) (a : Act) (w : World) : Prop where
  size : a.tmps.size = 194
  defers : a.defers = []
  t0 : a.tmps.getD 0 undef = x0
  t2 : a.tmps.getD 2 undef = .pointer (some ⟨K.g2, 0, none⟩)
  t3 : a.tmps.getD 3 undef = .pointer (some ⟨K.g3, 0, none⟩)
  t4 : a.tmps.getD 4 undef = .map (some K.bM)
  st : ∃ s : RfS, Hid (RfAt W w K (a.tmps.getD 5 undef) s) ∧ Hid (DInv l s.M s.T s.D s.mx s.em s.u0 s.u1) ∧ 2 * (1650 - s.M.length) + s.T.length ≤ n

theorem RI.fr {W : World} {l : List (Int × Int)} {K : RfK} {x0 : Value} {n : Nat} {a : Act} {w : World} (h : RI W l K x0 n a w) : FrAt K x0 (a.tmps.getD 5 undef) (a.tmps.getD 7 undef) (a.tmps.getD 8 undef) a :=
  ⟨h.size, h.defers, h.t0, h.t2, h.t3, h.t4, rfl, rfl, rfl⟩

/-- .. a smaller number of them. -/
def NX (W : World) (l : List (Int × Int)) (K : RfK) (x0 : Value) (n : Nat) (a : Act) (w : World) : Prop := ∃ m, m < n ∧ RI W l K x0 m a w

theorem NX.mk {W : World} {l : List (Int × Int)} {K : RfK} {x0 : Value} {n : Nat} {a : Act} {w : World} (m : Nat) (h : m < n) (h2 : RI W l K x0 m a w) : NX W l K x0 n a w := ⟨m, h, h2⟩

end Go.Proofs.YtfhlpbjdcdagjaaGreatDoor
