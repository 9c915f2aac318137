/- Layer 5, check: all ways are gone, place by place: plain facts. -/
import Derived.Test.YtfohdoahddommaaGreatDoorChkM
namespace Go.Proofs.YtfohdoahddommaaGreatDoor
open Go.RowKit Go.Lib
set_option linter.unusedVariables false
set_option maxRecDepth 100000

abbrev Pl := Int × Int × Int

theorem rch_e0 {l : List (Int × Int)} {t : Nat} {d e : Int} (h : Rch l t d e) : 0 ≤ e := by
  induction h with
  | start => omega
  | @step s d e t r f m ih => have := em_lo (opAt l s); omega

theorem rch_bounds {l : List (Int × Int)} {t : Nat} {d e : Int} (h : Rch l t d e) : 0 ≤ d ∧ d ≤ 10 ∧ 0 ≤ e ∧ e ≤ 5 := by
  cases h with
  | start => omega
  | step r f m =>
    rename_i s d' e' t'
    have he := rch_e0 r
    have h1 := lv_lo (opAt l s)
    have h2 := em_lo (opAt l s)
    have h3 : lvI (opAt l s) ≤ 2 := by unfold lvI; split <;> (try split) <;> omega
    have h4 : emI (opAt l s) ≤ 1 := by unfold emI; split <;> omega
    have h5 := tk_lo (opAt l s)
    have h6 := f.lo; have h7 := f.hi; have h8 := f.em; have h9 := f.tk
    unfold leftI
    omega

/-- What is gone so far: met, still to do, and what is known. -/
structure DInv (l : List (Int × Int)) (M T : List Pl) (D : List Int) (mx em : Int) (u0 u1 : Bool) : Prop where
  len : D.length = l.length
  rch : ∀ x, x ∈ M ∨ x ∈ T → ∃ t : Nat, x.1 = t ∧ Rch l t x.2.1 x.2.2
  nodup : M.Nodup
  start : (0, 0, 0) ∈ M ∨ (0, 0, 0) ∈ T
  clos : ∀ t : Nat, ∀ d e, ((t : Int), d, e) ∈ M → d ≤ 8 ∧ e ≤ 4 ∧ (t < l.length → D.getD t 0 = d ∧ tkI (opAt l t) ≤ d ∧ ∀ t' ∈ sucL l t, (((min t' l.length : Nat) : Int), leftI (opAt l t) d, e + emI (opAt l t)) ∈ M ∨ (((min t' l.length : Nat) : Int), leftI (opAt l t) d, e + emI (opAt l t)) ∈ T)
  un : ∀ t : Nat, t < l.length → D.getD t 0 = -1 ∨ ∃ e, ((t : Int), D.getD t 0, e) ∈ M
  mx1 : ∀ x ∈ M, x.2.1 ≤ mx
  mx2 : mx = 0 ∨ ∃ x ∈ M, x.2.1 = mx
  em1 : ∀ x ∈ M, x.2.2 ≤ em
  em2 : em = 0 ∨ ∃ x ∈ M, x.2.2 = em
  u0e : u0 = true ↔ ∃ t : Nat, ∃ d e, ((t : Int), d, e) ∈ M ∧ t < l.length ∧ (opAt l t = 4 ∨ opAt l t = 5) ∧ arAt l t = 0
  u1e : u1 = true ↔ ∃ t : Nat, ∃ d e, ((t : Int), d, e) ∈ M ∧ t < l.length ∧ (opAt l t = 4 ∨ opAt l t = 5) ∧ arAt l t = 1
  lenT : T.length ≤ M.length + 1

section
variable {l : List (Int × Int)} {M T : List Pl} {D : List Int} {mx em : Int} {u0 u1 : Bool}

theorem dinv_start (l : List (Int × Int)) : DInv l [] [(0, 0, 0)] (List.replicate l.length (-1)) 0 0 false false where
  len := by simp
  rch x hx := by
    rcases hx with hx | hx
    · cases hx
    · simp at hx; subst hx; exact ⟨0, rfl, .start⟩
  nodup := List.nodup_nil
  start := by simp
  clos t d e h := by cases h
  un t ht := .inl (by simp [List.getD_eq_getElem?_getD, ht])
  mx1 x hx := by cases hx
  mx2 := .inl rfl
  em1 x hx := by cases hx
  em2 := .inl rfl
  u0e := by simp
  u1e := by simp
  lenT := by simp

/-- What was met already. -/
theorem DInv.met {x : Pl} (h : DInv l M (T ++ [x]) D mx em u0 u1) (hx : x ∈ M) : DInv l M T D mx em u0 u1 where
  len := h.len
  rch y hy := h.rch y (hy.imp id fun q => by simp [q])
  nodup := h.nodup
  start := by
    rcases h.start with q | q
    · exact .inl q
    · rcases List.mem_append.1 q with q | q
      · exact .inr q
      · simp at q; rw [q]; exact .inl hx
  clos t d e q := by
    obtain ⟨h1, h2, h3⟩ := h.clos t d e q
    refine ⟨h1, h2, fun ht => ?_⟩
    obtain ⟨h4, h5, h6⟩ := h3 ht
    refine ⟨h4, h5, fun t' ht' => ?_⟩
    rcases h6 t' ht' with q | q
    · exact .inl q
    · rcases List.mem_append.1 q with q | q
      · exact .inr q
      · simp only [List.mem_singleton] at q; rw [q]; exact .inl hx
  un := h.un
  mx1 := h.mx1
  mx2 := h.mx2
  em1 := h.em1
  em2 := h.em2
  u0e := h.u0e
  u1e := h.u1e
  lenT := by have := h.lenT; simp at this; omega

theorem max_of {P : Pl → Int} {M : List Pl} {x : Pl} {m : Int} (h1 : ∀ y ∈ M, P y ≤ m) (h2 : m = 0 ∨ ∃ y ∈ M, P y = m) : (∀ y ∈ M ++ [x], P y ≤ max m (P x)) ∧ (max m (P x) = 0 ∨ ∃ y ∈ M ++ [x], P y = max m (P x)) := by
  refine ⟨fun y hy => ?_, ?_⟩
  · rcases List.mem_append.1 hy with q | q
    · have := h1 y q; omega
    · simp at q; subst q; omega
  · by_cases hle : P x ≤ m
    · rw [show max m (P x) = m by omega]
      rcases h2 with q | ⟨y, hy, q⟩
      · exact .inl q
      · exact .inr ⟨y, by simp [hy], q⟩
    · rw [show max m (P x) = P x by omega]
      exact .inr ⟨x, by simp, rfl⟩

/-- The end is come to. -/
theorem DInv.at_end {d e : Int} (h : DInv l M (T ++ [((l.length : Int), d, e)]) D mx em u0 u1) (hx : ((l.length : Int), d, e) ∉ M) (hd : d ≤ 8) (he : e ≤ 4) : DInv l (M ++ [((l.length : Int), d, e)]) T D (max mx d) (max em e) u0 u1 where
  len := h.len
  rch y hy := h.rch y (by
    rcases hy with q | q
    · rcases List.mem_append.1 q with q | q
      · exact .inl q
      · exact .inr (by simp at q; simp [q])
    · exact .inr (by simp [q]))
  nodup := by
    rw [List.nodup_append]
    exact ⟨h.nodup, by simp, fun a ha b hb => by simp at hb; subst hb; intro q; subst q; exact hx ha⟩
  start := by
    rcases h.start with q | q
    · exact .inl (by simp [q])
    · rcases List.mem_append.1 q with q | q
      · exact .inr q
      · exact .inl (by simp only [List.mem_append]; exact .inr q)
  clos t d' e' q := by
    rcases List.mem_append.1 q with q | q
    · obtain ⟨h1, h2, h3⟩ := h.clos t d' e' q
      refine ⟨h1, h2, fun ht => ?_⟩
      obtain ⟨h4, h5, h6⟩ := h3 ht
      refine ⟨h4, h5, fun t' ht' => ?_⟩
      rcases h6 t' ht' with q | q
      · exact .inl (by simp only [List.mem_append]; exact .inl q)
      · rcases List.mem_append.1 q with q | q
        · exact .inr q
        · exact .inl (by simp only [List.mem_append]; exact .inr q)
    · simp only [List.mem_singleton, Prod.mk.injEq] at q
      obtain ⟨q1, rfl, rfl⟩ := q
      exact ⟨hd, he, fun ht => by omega⟩
  un t ht := by
    rcases h.un t ht with q | ⟨e', q⟩
    · exact .inl q
    · exact .inr ⟨e', by simp only [List.mem_append]; exact .inl q⟩
  mx1 := (max_of (P := fun x => x.2.1) (x := ((l.length : Int), d, e)) h.mx1 h.mx2).1
  mx2 := (max_of (P := fun x => x.2.1) (x := ((l.length : Int), d, e)) h.mx1 h.mx2).2
  em1 := (max_of (P := fun x => x.2.2) (x := ((l.length : Int), d, e)) h.em1 h.em2).1
  em2 := (max_of (P := fun x => x.2.2) (x := ((l.length : Int), d, e)) h.em1 h.em2).2
  u0e := by
    rw [h.u0e]
    constructor
    · rintro ⟨t, d', e', q1, q2⟩; exact ⟨t, d', e', by simp only [List.mem_append]; exact .inl q1, q2⟩
    · rintro ⟨t, d', e', q1, q2, q3⟩
      rcases List.mem_append.1 q1 with q | q
      · exact ⟨t, d', e', q, q2, q3⟩
      · simp only [List.mem_singleton, Prod.mk.injEq] at q; omega
  u1e := by
    rw [h.u1e]
    constructor
    · rintro ⟨t, d', e', q1, q2⟩; exact ⟨t, d', e', by simp only [List.mem_append]; exact .inl q1, q2⟩
    · rintro ⟨t, d', e', q1, q2, q3⟩
      rcases List.mem_append.1 q1 with q | q
      · exact ⟨t, d', e', q, q2, q3⟩
      · simp only [List.mem_singleton, Prod.mk.injEq] at q; omega
  lenT := by have := h.lenT; simp at this ⊢; omega

/-- The places to which one leads. -/
def newsL (l : List (Int × Int)) (t : Nat) (d e : Int) : List Pl := (sucL l t).map fun t' => (((min t' l.length : Nat) : Int), leftI (opAt l t) d, e + emI (opAt l t))

theorem newsL_len (l : List (Int × Int)) (t : Nat) (d e : Int) : (newsL l t d e).length ≤ 2 := by
  unfold newsL sucL nextN
  rw [List.length_map]
  split
  · simp
  · split
    · simp
    · split <;> simp

theorem DInv.go {t : Nat} {d e : Int} (h : DInv l M (T ++ [((t : Int), d, e)]) D mx em u0 u1) (hx : ((t : Int), d, e) ∉ M) (ht : t < l.length) (hd : d ≤ 8) (he : e ≤ 4) (hD : D.getD t 0 < 0 ∨ D.getD t 0 = d) (htk : tkI (opAt l t) ≤ d) :
    DInv l (M ++ [((t : Int), d, e)]) (T ++ newsL l t d e) (D.set t d) (max mx d) (max em e) (u0 || (decide (opAt l t = 4 ∨ opAt l t = 5) && decide (arAt l t = 0))) (u1 || (decide (opAt l t = 4 ∨ opAt l t = 5) && decide (arAt l t = 1))) := by
  obtain ⟨t0, ht0, hr⟩ := h.rch ((t : Int), d, e) (.inr (by simp))
  simp only at ht0 hr
  obtain rfl : t = t0 := by omega
  obtain ⟨b1, b2, b3, b4⟩ := rch_bounds hr
  have F : FineI l t d e := ⟨ht, b1, hd, he, htk⟩
  have hold : D.getD t 0 = -1 ∨ D.getD t 0 = d := by
    rcases h.un t ht with q | ⟨e', q⟩
    · exact .inl q
    · obtain ⟨t1, h1, h2⟩ := h.rch _ (.inl q)
      have := rch_bounds h2
      simp only at this
      rcases hD with q2 | q2
      · omega
      · exact .inr q2
  have lenD := h.len
  refine ⟨by simpa using h.len, fun y hy => ?_, ?_, ?_, fun t' d' e' q => ?_, fun t' ht' => ?_, (max_of (P := fun x => x.2.1) (x := ((t : Int), d, e)) h.mx1 h.mx2).1, (max_of (P := fun x => x.2.1) (x := ((t : Int), d, e)) h.mx1 h.mx2).2, (max_of (P := fun x => x.2.2) (x := ((t : Int), d, e)) h.em1 h.em2).1, (max_of (P := fun x => x.2.2) (x := ((t : Int), d, e)) h.em1 h.em2).2, ?_, ?_, ?_⟩
  · rcases hy with q | q
    · rcases List.mem_append.1 q with q | q
      · exact h.rch y (.inl q)
      · exact h.rch y (.inr (by simp at q; simp [q]))
    · rcases List.mem_append.1 q with q | q
      · exact h.rch y (.inr (by simp [q]))
      · obtain ⟨t', ht', rfl⟩ := List.mem_map.1 q
        exact ⟨_, rfl, .step hr F ht'⟩
  · rw [List.nodup_append]
    exact ⟨h.nodup, by simp, fun a ha b hb => by simp at hb; subst hb; intro q; subst q; exact hx ha⟩
  · rcases h.start with q | q
    · exact .inl (by simp [q])
    · rcases List.mem_append.1 q with q | q
      · exact .inr (by simp [q])
      · exact .inl (by simp only [List.mem_append]; exact .inr q)
  · rcases List.mem_append.1 q with qm | q
    · obtain ⟨h1, h2, h3⟩ := h.clos t' d' e' qm
      refine ⟨h1, h2, fun ht' => ?_⟩
      obtain ⟨h4, h5, h6⟩ := h3 ht'
      refine ⟨?_, h5, fun t2 ht2 => ?_⟩
      · rw [getD_set]
        split
        · rename_i hq
          obtain ⟨rfl, _⟩ := hq
          obtain ⟨t3, h7, h8⟩ := h.rch _ (.inl qm)
          have := rch_bounds h8
          simp only at this
          rcases hold with q2 | q2 <;> omega
        · exact h4
      · rcases h6 t2 ht2 with q | q
        · exact .inl (by simp only [List.mem_append]; exact .inl q)
        · rcases List.mem_append.1 q with q | q
          · exact .inr (by simp only [List.mem_append]; exact .inl q)
          · exact .inl (by simp only [List.mem_append]; exact .inr q)
    · simp only [List.mem_singleton, Prod.mk.injEq] at q
      obtain ⟨q1, rfl, rfl⟩ := q
      obtain rfl : t' = t := by omega
      refine ⟨hd, he, fun _ => ⟨?_, htk, fun t2 ht2 => .inr (by simp only [List.mem_append]; exact .inr (List.mem_map.2 ⟨t2, ht2, rfl⟩))⟩⟩
      rw [getD_set, if_pos ⟨rfl, by omega⟩]
  · rw [getD_set]
    split
    · rename_i hq
      obtain ⟨rfl, _⟩ := hq
      exact .inr ⟨e, by simp⟩
    · rcases h.un t' ht' with q | ⟨e', q⟩
      · exact .inl q
      · exact .inr ⟨e', by simp only [List.mem_append]; exact .inl q⟩
  · rw [Bool.or_eq_true, h.u0e, Bool.and_eq_true, decide_eq_true_eq, decide_eq_true_eq]
    constructor
    · rintro (⟨t', d', e', q1, q2⟩ | ⟨q1, q2⟩)
      · exact ⟨t', d', e', by simp only [List.mem_append]; exact .inl q1, q2⟩
      · exact ⟨t, d, e, by simp, ht, q1, q2⟩
    · rintro ⟨t', d', e', q1, q2, q3⟩
      rcases List.mem_append.1 q1 with q | q
      · exact .inl ⟨t', d', e', q, q2, q3⟩
      · simp only [List.mem_singleton, Prod.mk.injEq] at q
        obtain rfl : t' = t := by omega
        exact .inr q3
  · rw [Bool.or_eq_true, h.u1e, Bool.and_eq_true, decide_eq_true_eq, decide_eq_true_eq]
    constructor
    · rintro (⟨t', d', e', q1, q2⟩ | ⟨q1, q2⟩)
      · exact ⟨t', d', e', by simp only [List.mem_append]; exact .inl q1, q2⟩
      · exact ⟨t, d, e, by simp, ht, q1, q2⟩
    · rintro ⟨t', d', e', q1, q2, q3⟩
      rcases List.mem_append.1 q1 with q | q
      · exact .inl ⟨t', d', e', q, q2, q3⟩
      · simp only [List.mem_singleton, Prod.mk.injEq] at q
        obtain rfl : t' = t := by omega
        exact .inr q3
  · have := h.lenT
    have := newsL_len l t d e
    simp at *
    omega

/-- All ways are gone. -/
theorem DInv.done (h : DInv l M [] D mx em u0 u1) : Sem l D mx em u0 u1 := by
  have hall : ∀ t d e, Rch l t d e → ((t : Int), d, e) ∈ M := by
    intro t d e r
    induction r with
    | start =>
      rcases h.start with q | q
      · exact q
      · cases q
    | step r f m ih =>
      rcases ((h.clos _ _ _ ih).2.2 f.lt).2.2 _ m with q | q
      · exact q
      · cases q
  refine ⟨h.len, fun t d e r => ?_, fun t ht => ?_, ?_, ?_, ?_, ?_⟩
  · obtain ⟨h1, h2, h3⟩ := h.clos _ _ _ (hall _ _ _ r)
    obtain ⟨b1, b2, b3, b4⟩ := rch_bounds r
    exact ⟨b1, h1, b3, h2, h.mx1 _ (hall _ _ _ r), h.em1 _ (hall _ _ _ r), fun ht => ⟨(h3 ht).1, (h3 ht).2.1⟩⟩
  · rcases h.un t ht with q | ⟨e, q⟩
    · exact .inl q
    · obtain ⟨t0, h1, h2⟩ := h.rch _ (.inl q)
      simp only at h1 h2
      obtain rfl : t = t0 := by omega
      exact .inr ⟨e, h2⟩
  · rcases h.mx2 with q | ⟨x, hx, q⟩
    · rw [q]; exact ⟨0, 0, .start⟩
    · obtain ⟨t0, h1, h2⟩ := h.rch _ (.inl hx)
      rw [← q]; exact ⟨_, _, h2⟩
  · rcases h.em2 with q | ⟨x, hx, q⟩
    · rw [q]; exact ⟨0, 0, .start⟩
    · obtain ⟨t0, h1, h2⟩ := h.rch _ (.inl hx)
      rw [← q]; exact ⟨_, _, h2⟩
  · rw [h.u0e]
    constructor
    · rintro ⟨t, d, e, q1, q2⟩
      obtain ⟨t0, h1, h2⟩ := h.rch _ (.inl q1)
      simp only at h1 h2
      obtain rfl : t = t0 := by omega
      exact ⟨t, d, e, h2, q2⟩
    · rintro ⟨t, d, e, q1, q2⟩
      exact ⟨t, d, e, hall _ _ _ q1, q2⟩
  · rw [h.u1e]
    constructor
    · rintro ⟨t, d, e, q1, q2⟩
      obtain ⟨t0, h1, h2⟩ := h.rch _ (.inl q1)
      simp only at h1 h2
      obtain rfl : t = t0 := by omega
      exact ⟨t, d, e, h2, q2⟩
    · rintro ⟨t, d, e, q1, q2⟩
      exact ⟨t, d, e, hall _ _ _ q1, q2⟩

/-- What is still to do is come to. -/
theorem DInv.last {t d e : Int} (h : DInv l M (T ++ [(t, d, e)]) D mx em u0 u1) : ∃ k : Nat, t = k ∧ k ≤ l.length ∧ Rch l k d e := by
  obtain ⟨k, h1, h2⟩ := h.rch (t, d, e) (.inr (by simp))
  exact ⟨k, h1, rch_le h2, h2⟩

theorem DInv.far {k : Nat} {d e : Int} (h : DInv l M (T ++ [((k : Int), d, e)]) D mx em u0 u1) (hb : 8 < d ∨ 4 < e) : ¬ Good l := by
  intro G
  obtain ⟨k', h1, _, h2⟩ := h.last
  have := G.fine _ _ _ h2
  omega

theorem DInv.two {k : Nat} {d e : Int} (h : DInv l M (T ++ [((k : Int), d, e)]) D mx em u0 u1) (hk : k < l.length) (h0 : 0 ≤ D.getD k 0) (hne : D.getD k 0 ≠ d) : ¬ Good l := by
  intro G
  obtain ⟨k', h1, _, h2⟩ := h.last
  obtain rfl : k = k' := by omega
  rcases h.un k hk with q | ⟨e', q⟩
  · omega
  · obtain ⟨k2, h3, h4⟩ := h.rch _ (.inl q)
    simp only at h3 h4
    obtain rfl : k = k2 := by omega
    exact hne (G.one _ _ _ _ _ h4 h2 hk)

theorem DInv.low {k : Nat} {d e : Int} (h : DInv l M (T ++ [((k : Int), d, e)]) D mx em u0 u1) (hk : k < l.length) (htk : d < tkI (opAt l k)) : ¬ Good l := by
  intro G
  obtain ⟨k', h1, _, h2⟩ := h.last
  obtain rfl : k = k' := by omega
  have := (G.fine _ _ _ h2).2.2.2 hk
  omega

end

theorem nodup_bound : ∀ (N : Nat) (l : List Nat), l.Nodup → (∀ x ∈ l, x < N) → l.length ≤ N
  | 0, l, _, h => by
    cases l with
    | nil => simp
    | cons x l => have := h x (by simp); omega
  | N + 1, l, hn, h => by
    by_cases hm : N ∈ l
    · have h1 := nodup_bound N (l.erase N) (hn.erase N) (fun x hx => by
        have h2 := h x (List.mem_of_mem_erase hx)
        have h3 : x ≠ N := fun q => by subst q; exact (List.Nodup.not_mem_erase hn) hx
        omega)
      rw [List.length_erase_of_mem hm] at h1
      omega
    · have h1 := nodup_bound N l hn (fun x hx => by
        have h2 := h x hx
        have h3 : x ≠ N := fun q => by subst q; exact hm hx
        omega)
      omega

def plN (x : Pl) : Nat := (x.1.toNat * 11 + x.2.1.toNat) * 6 + x.2.2.toNat

theorem DInv.few {l : List (Int × Int)} {M T : List Pl} {D : List Int} {mx em : Int} {u0 u1 : Bool} (h : DInv l M T D mx em u0 u1) (h24 : l.length ≤ 24) : M.length ≤ 1650 := by
  have hb : ∀ x ∈ M, 0 ≤ x.1 ∧ x.1 ≤ 24 ∧ 0 ≤ x.2.1 ∧ x.2.1 ≤ 10 ∧ 0 ≤ x.2.2 ∧ x.2.2 ≤ 5 := fun x hx => by
    obtain ⟨t, h1, h2⟩ := h.rch x (.inl hx)
    obtain ⟨b1, b2, b3, b4⟩ := rch_bounds h2
    have := rch_le h2
    omega
  have hinj : ∀ x ∈ M, ∀ y ∈ M, plN x = plN y → x = y := fun x hx y hy hxy => by
    have h1 := hb x hx; have h2 := hb y hy
    obtain ⟨a, b, c⟩ := x
    obtain ⟨a', b', c'⟩ := y
    unfold plN at hxy
    simp only at h1 h2 hxy
    simp only [Prod.mk.injEq]
    omega
  have hnd : (M.map plN).Nodup := by
    rw [List.Nodup, List.pairwise_map]
    refine List.Pairwise.imp_of_mem ?_ h.nodup
    intro a b ha hb2 hne q
    exact hne (hinj a ha b hb2 q)
  have := nodup_bound 1650 (M.map plN) hnd (fun n hn => by
    obtain ⟨x, hx, rfl⟩ := List.mem_map.1 hn
    have := hb x hx
    unfold plN
    omega)
  simpa using this

end Go.Proofs.YtfohdoahddommaaGreatDoor
