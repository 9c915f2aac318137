/- Layer 5, check: what is known of a program, step by step, and by all ways: plain facts. -/
import Derived.Test.YtfhlpbjdcdagjaaGreatDoorHaa
namespace Go.Proofs.YtfhlpbjdcdagjaaGreatDoor
open Go.RowKit Go.Lib
set_option linter.unusedVariables false
set_option maxRecDepth 100000

/-- What an operation takes, what it leaves, and how much it puts out. -/
def tkI (o : Int) : Int := if o = 5 ∨ o = 13 ∨ o = 14 ∨ o = 15 ∨ o = 9 ∨ o = 10 ∨ o = 11 then 1 else if o = 6 ∨ o = 7 ∨ o = 8 ∨ o = 17 ∨ o = 12 then 2 else 0
def lvI (o : Int) : Int := if (1 ≤ o ∧ o ≤ 4) ∨ (6 ≤ o ∧ o ≤ 10) ∨ o = 17 then 1 else if o = 11 ∨ o = 12 then 2 else 0
def emI (o : Int) : Int := if o = 14 then 1 else 0
def leftI (o d : Int) : Int := d - tkI o + lvI o

def opAt (l : List (Int × Int)) (t : Nat) : Int := (l.getD t (0, 0)).1
def arAt (l : List (Int × Int)) (t : Nat) : Int := (l.getD t (0, 0)).2

/-- Where an instruction leads. -/
def nextN (t : Nat) (o a : Int) : List Nat := if o = 0 then [] else if o = 15 then [t + 1, t + 1 + a.toNat] else if o = 16 then [t + 1 + a.toNat] else [t + 1]
def sucL (l : List (Int × Int)) (t : Nat) : List Nat := nextN t (opAt l t) (arAt l t)

structure FineI (l : List (Int × Int)) (t : Nat) (d e : Int) : Prop where
  lt : t < l.length
  lo : 0 ≤ d
  hi : d ≤ 8
  em : e ≤ 4
  tk : tkI (opAt l t) ≤ d

/-- A place is come to, with a depth and as many values put out. -/
inductive Rch (l : List (Int × Int)) : Nat → Int → Int → Prop
  | start : Rch l 0 0 0
  | step {s : Nat} {d e : Int} {t : Nat} : Rch l s d e → FineI l s d e → t ∈ sucL l s → Rch l (min t l.length) (leftI (opAt l s) d) (e + emI (opAt l s))

/-- All that is come to may be. -/
structure Good (l : List (Int × Int)) : Prop where
  fine : ∀ t d e, Rch l t d e → 0 ≤ d ∧ d ≤ 8 ∧ e ≤ 4 ∧ (t < l.length → tkI (opAt l t) ≤ d)
  one : ∀ t d e d' e', Rch l t d e → Rch l t d' e' → t < l.length → d = d'

structure Sem (l : List (Int × Int)) (D : List Int) (mx em : Int) (u0 u1 : Bool) : Prop where
  len : D.length = l.length
  ok : ∀ t d e, Rch l t d e → 0 ≤ d ∧ d ≤ 8 ∧ 0 ≤ e ∧ e ≤ 4 ∧ d ≤ mx ∧ e ≤ em ∧ (t < l.length → D.getD t 0 = d ∧ tkI (opAt l t) ≤ d)
  un : ∀ t, t < l.length → D.getD t 0 = -1 ∨ ∃ e, Rch l t (D.getD t 0) e
  mxe : ∃ t e, Rch l t mx e
  eme : ∃ t d, Rch l t d em
  u0e : u0 = true ↔ ∃ t d e, Rch l t d e ∧ t < l.length ∧ (opAt l t = 4 ∨ opAt l t = 5) ∧ arAt l t = 0
  u1e : u1 = true ↔ ∃ t d e, Rch l t d e ∧ t < l.length ∧ (opAt l t = 4 ∨ opAt l t = 5) ∧ arAt l t = 1

theorem Sem.good {l : List (Int × Int)} {D : List Int} {mx em : Int} {u0 u1 : Bool} (h : Sem l D mx em u0 u1) : Good l :=
  ⟨fun t d e r => by have := h.ok t d e r; exact ⟨this.1, this.2.1, this.2.2.2.1, fun q => (this.2.2.2.2.2.2 q).2⟩,
   fun t d e d' e' r r' q => by rw [← ((h.ok t d e r).2.2.2.2.2.2 q).1, ← ((h.ok t d' e' r').2.2.2.2.2.2 q).1]⟩

theorem getD_ext {D D' : List Int} (hl : D.length = D'.length) (h : ∀ t, t < D.length → D.getD t 0 = D'.getD t 0) : D = D' := by
  apply List.ext_getElem hl
  intro i h1 h2
  have := h i h1
  simpa [List.getD_eq_getElem?_getD, h1, h2] using this

theorem Sem.same {l : List (Int × Int)} {D D' : List Int} {mx em mx' em' : Int} {u0 u1 u0' u1' : Bool} (h : Sem l D mx em u0 u1) (h' : Sem l D' mx' em' u0' u1') : D = D' ∧ mx = mx' ∧ em = em' ∧ u0 = u0' ∧ u1 = u1' := by
  refine ⟨getD_ext (h.len.trans h'.len.symm) fun t ht => ?_, ?_, ?_, ?_, ?_⟩
  · rw [h.len] at ht
    rcases h.un t ht with h1 | ⟨e, h1⟩
    · rcases h'.un t ht with h2 | ⟨e', h2⟩
      · rw [h1, h2]
      · exact ((h.ok _ _ _ h2).2.2.2.2.2.2 ht).1
    · exact (((h'.ok _ _ _ h1).2.2.2.2.2.2 ht).1).symm
  · obtain ⟨t, e, r⟩ := h.mxe
    obtain ⟨t', e', r'⟩ := h'.mxe
    have a := (h'.ok _ _ _ r).2.2.2.2.1
    have b := (h.ok _ _ _ r').2.2.2.2.1
    omega
  · obtain ⟨t, e, r⟩ := h.eme
    obtain ⟨t', e', r'⟩ := h'.eme
    have a := (h'.ok _ _ _ r).2.2.2.2.2.1
    have b := (h.ok _ _ _ r').2.2.2.2.2.1
    omega
  · exact Bool.eq_iff_iff.2 (h.u0e.trans h'.u0e.symm)
  · exact Bool.eq_iff_iff.2 (h.u1e.trans h'.u1e.symm)

/-! ### Step by step -/

structure CkS where
  D : List Int
  E : List Int
  mx : Int
  em : Int
  u0 : Bool
  u1 : Bool

def comeS (s : CkS) (to : Nat) (d e : Int) : CkS :=
  if s.D.length ≤ to then s else { s with D := if s.D.getD to 0 = -1 then s.D.set to d else s.D, E := s.E.set to (max (s.E.getD to 0) e) }

def comeB (s : CkS) (to : Nat) (d e : Int) : Bool := if s.D.length ≤ to then true else decide ((comeS s to d e).D.getD to 0 = d)

def comes (s : CkS) : List Nat → Int → Int → Option CkS
  | [], _, _ => some s
  | t :: ts, d, e => if comeB s t d e then comes (comeS s t d e) ts d e else none

def useS (s : CkS) (o a : Int) : CkS := { s with u0 := s.u0 || (decide (o = 4 ∨ o = 5) && decide (a = 0)), u1 := s.u1 || (decide (o = 4 ∨ o = 5) && decide (a = 1)) }

def passS (s : CkS) (t : Nat) (o a : Int) : Option CkS :=
  if s.D.getD t 0 < tkI o ∨ 8 < leftI o (s.D.getD t 0) ∨ 4 < s.E.getD t 0 + emI o then none
  else comes { useS s o a with mx := max s.mx (leftI o (s.D.getD t 0)), em := max s.em (s.E.getD t 0 + emI o) } (nextN t o a) (leftI o (s.D.getD t 0)) (s.E.getD t 0 + emI o)

def startS (n : Nat) : CkS := comeS ⟨List.replicate n (-1), List.replicate n 0, 0, 0, false, false⟩ 0 0 0

def chkTo (l : List (Int × Int)) : Nat → Option CkS
  | 0 => some (startS l.length)
  | k + 1 => (chkTo l k).bind fun s => if s.D.getD k 0 = -1 then some s else passS s k (opAt l k) (arAt l k)

def chk (l : List (Int × Int)) : Option CkS := if fitsL l then chkTo l l.length else none

theorem getD_set (D : List Int) (t j : Nat) (v : Int) : (D.set t v).getD j 0 = if j = t ∧ t < D.length then v else D.getD j 0 := by
  rw [List.getD_eq_getElem?_getD, List.getElem?_set, List.getD_eq_getElem?_getD]
  by_cases h : t = j
  · subst h
    by_cases h2 : t < D.length
    · simp [h2]
    · simp [h2]
  · rw [if_neg h, if_neg (fun q => h q.1.symm)]

theorem comeS_len (s : CkS) (t : Nat) (d e : Int) : (comeS s t d e).D.length = s.D.length ∧ (comeS s t d e).E.length = s.E.length ∧ (comeS s t d e).mx = s.mx ∧ (comeS s t d e).em = s.em ∧ (comeS s t d e).u0 = s.u0 ∧ (comeS s t d e).u1 = s.u1 := by
  unfold comeS
  split
  · exact ⟨rfl, rfl, rfl, rfl, rfl, rfl⟩
  · refine ⟨?_, by simp, rfl, rfl, rfl, rfl⟩
    simp only
    split <;> simp

theorem comeS_D (s : CkS) (t j : Nat) (d e : Int) : (comeS s t d e).D.getD j 0 = if j = t ∧ t < s.D.length ∧ s.D.getD t 0 = -1 then d else s.D.getD j 0 := by
  unfold comeS
  split
  · rw [if_neg (by omega)]
  · simp only
    split
    · rename_i h1 h2
      rw [getD_set]
      by_cases hj : j = t
      · rw [if_pos ⟨hj, by omega⟩, if_pos ⟨hj, by omega, h2⟩]
      · rw [if_neg (fun q => hj q.1), if_neg (fun q => hj q.1)]
    · rename_i h1 h2
      rw [if_neg (fun q => h2 q.2.2)]

theorem comeS_E (s : CkS) (t j : Nat) (d e : Int) (hl : s.E.length = s.D.length) : (comeS s t d e).E.getD j 0 = if j = t ∧ t < s.D.length then max (s.E.getD t 0) e else s.E.getD j 0 := by
  unfold comeS
  split
  · rw [if_neg (by omega)]
  · simp only
    rw [getD_set, hl]

theorem comeB_iff (s : CkS) (t : Nat) (d e : Int) : comeB s t d e = true ↔ (t < s.D.length → s.D.getD t 0 = -1 ∨ s.D.getD t 0 = d) := by
  unfold comeB
  split
  · simp; omega
  · rename_i h
    rw [decide_eq_true_eq, comeS_D]
    by_cases h1 : s.D.getD t 0 = -1
    · rw [if_pos ⟨rfl, by omega, h1⟩]; exact ⟨fun _ _ => Or.inl h1, fun _ => rfl⟩
    · rw [if_neg (fun q => h1 q.2.2)]
      constructor
      · exact fun h2 _ => Or.inr h2
      · intro h2
        rcases h2 (by omega) with h3 | h3
        · exact absurd h3 h1
        · exact h3

theorem comes_some : ∀ (ts : List Nat) (s s' : CkS) (d e : Int), d ≠ -1 → s.E.length = s.D.length → comes s ts d e = some s' →
    (s'.D.length = s.D.length ∧ s'.E.length = s.D.length ∧ s'.mx = s.mx ∧ s'.em = s.em ∧ s'.u0 = s.u0 ∧ s'.u1 = s.u1) ∧
    ∀ j, j < s.D.length → if j ∈ ts then s'.D.getD j 0 = d ∧ (s.D.getD j 0 = -1 ∨ s.D.getD j 0 = d) ∧ s'.E.getD j 0 = max (s.E.getD j 0) e else s'.D.getD j 0 = s.D.getD j 0 ∧ s'.E.getD j 0 = s.E.getD j 0
  | [], s, s', d, e, hd, hl, h => by
    simp only [comes, Option.some.injEq] at h
    subst h
    exact ⟨⟨rfl, hl, rfl, rfl, rfl, rfl⟩, fun j hj => by simp⟩
  | t :: ts, s, s', d, e, hd, hl, h => by
    unfold comes at h
    split at h
    · rename_i hb
      rw [comeB_iff] at hb
      obtain ⟨c1, c2, c3, c4, c5, c6⟩ := comeS_len s t d e
      obtain ⟨⟨a1, a2, a3, a4, a5, a6⟩, a7⟩ := comes_some ts _ _ _ _ hd (c2.trans (hl.trans c1.symm)) h
      refine ⟨⟨by omega, by omega, by omega, by omega, a5.trans c5, a6.trans c6⟩, fun j hj => ?_⟩
      have a8 := a7 j (by omega)
      have hD := comeS_D s t j d e
      have hE := comeS_E s t j d e hl
      by_cases hjt : j = t
      · subst hjt
        rw [if_pos ⟨rfl, hj⟩] at hE
        rw [if_pos (List.mem_cons_self)]
        have hb := hb hj
        by_cases hm : j ∈ ts
        · rw [if_pos hm] at a8
          obtain ⟨b1, b2, b3⟩ := a8
          exact ⟨b1, hb, by rw [b3, hE]; omega⟩
        · rw [if_neg hm] at a8
          obtain ⟨b1, b2⟩ := a8
          refine ⟨?_, hb, b2.trans hE⟩
          rw [b1, hD]
          split
          · rfl
          · rename_i h3
            rcases hb with h4 | h4
            · exact absurd ⟨rfl, hj, h4⟩ h3
            · exact h4
      · rw [if_neg (fun q => hjt q.1)] at hD hE
        by_cases hm : j ∈ ts
        · rw [if_pos hm] at a8
          rw [if_pos (List.mem_cons_of_mem _ hm), ← hD, ← hE]
          exact a8
        · rw [if_neg hm] at a8
          rw [if_neg (by simp [hjt, hm]), ← hD, ← hE]
          exact a8
    · cases h

theorem comes_none : ∀ (ts : List Nat) (s : CkS) (d e : Int), d ≠ -1 → comes s ts d e = none → ∃ j, j ∈ ts ∧ j < s.D.length ∧ s.D.getD j 0 ≠ -1 ∧ s.D.getD j 0 ≠ d
  | [], s, d, e, hd, h => by simp [comes] at h
  | t :: ts, s, d, e, hd, h => by
    unfold comes at h
    split at h
    · rename_i hb
      rw [comeB_iff] at hb
      obtain ⟨c1, _⟩ := comeS_len s t d e
      obtain ⟨j, j1, j2, j3, j4⟩ := comes_none ts _ _ _ hd h
      rw [comeS_D] at j3 j4
      refine ⟨j, List.mem_cons_of_mem _ j1, by omega, ?_⟩
      split at j3
      · rename_i hq
        rw [if_pos hq] at j4
        exact absurd rfl j4
      · rename_i hq
        rw [if_neg hq] at j4
        exact ⟨j3, j4⟩
    · rename_i hb
      have hb' : ¬ (t < s.D.length → s.D.getD t 0 = -1 ∨ s.D.getD t 0 = d) := fun q => hb ((comeB_iff s t d e).2 q)
      refine ⟨t, List.mem_cons_self, ?_⟩
      by_cases h1 : t < s.D.length
      · refine ⟨h1, fun q => hb' fun _ => Or.inl q, fun q => hb' fun _ => Or.inr q⟩
      · exact absurd (fun q => absurd q h1) hb'

/-! ### Of all ways -/

theorem tk_lo (o : Int) : 0 ≤ tkI o := by unfold tkI; split <;> (try split) <;> omega
theorem lv_lo (o : Int) : 0 ≤ lvI o := by unfold lvI; split <;> (try split) <;> omega
theorem em_lo (o : Int) : 0 ≤ emI o := by unfold emI; split <;> omega

theorem suc_gt {l : List (Int × Int)} {s t : Nat} (h : t ∈ sucL l s) : s < t := by
  unfold sucL nextN at h
  split at h
  · simp at h
  · split at h
    · simp at h; omega
    · split at h <;> (simp at h; omega)

theorem suc_ne {l : List (Int × Int)} {s : Nat} (h : opAt l s ≠ 0) : ∃ t, t ∈ sucL l s := by
  unfold sucL nextN
  rw [if_neg h]
  split
  · exact ⟨_, List.mem_cons_self⟩
  · split <;> exact ⟨_, List.mem_cons_self⟩

/-- .. from one of the first k. -/
def RP (l : List (Int × Int)) (k t : Nat) (d e : Int) : Prop :=
  (t = 0 ∧ d = 0 ∧ e = 0) ∨ ∃ s d' e' t', s < k ∧ Rch l s d' e' ∧ FineI l s d' e' ∧ t' ∈ sucL l s ∧ t = min t' l.length ∧ d = leftI (opAt l s) d' ∧ e = e' + emI (opAt l s)

theorem RP.rch {l : List (Int × Int)} {k t : Nat} {d e : Int} (h : RP l k t d e) : Rch l t d e := by
  rcases h with ⟨rfl, rfl, rfl⟩ | ⟨s, d', e', t', _, r, f, m, rfl, rfl, rfl⟩
  · exact .start
  · exact .step r f m

theorem rch_rp {l : List (Int × Int)} {t : Nat} {d e : Int} (h : Rch l t d e) {k : Nat} (hk : t ≤ k ∨ l.length ≤ k) : RP l k t d e := by
  cases h with
  | start => exact Or.inl ⟨rfl, rfl, rfl⟩
  | step r f m =>
    refine Or.inr ⟨_, _, _, _, ?_, r, f, m, rfl, rfl, rfl⟩
    have := suc_gt m
    have := f.lt
    omega

theorem rch_le {l : List (Int × Int)} {t : Nat} {d e : Int} (h : Rch l t d e) : t ≤ l.length := by
  cases h with
  | start => exact Nat.zero_le _
  | step r f m => exact Nat.min_le_right _ _

structure InvC (l : List (Int × Int)) (k : Nat) (s : CkS) : Prop where
  lenD : s.D.length = l.length
  lenE : s.E.length = l.length
  at_ : ∀ t, t < l.length → (s.D.getD t 0 = -1 ∧ s.E.getD t 0 = 0) ∨ (0 ≤ s.D.getD t 0 ∧ RP l k t (s.D.getD t 0) (s.E.getD t 0))
  ok : ∀ t d e, RP l k t d e → 0 ≤ d ∧ d ≤ 8 ∧ 0 ≤ e ∧ e ≤ 4 ∧ d ≤ s.mx ∧ e ≤ s.em ∧ (t < l.length → s.D.getD t 0 = d ∧ e ≤ s.E.getD t 0)
  fin : ∀ t d e, t < k → Rch l t d e → FineI l t d e
  mxe : ∃ t e, Rch l t s.mx e
  eme : ∃ t d, Rch l t d s.em
  u0e : s.u0 = true ↔ ∃ t d e, t < k ∧ Rch l t d e ∧ t < l.length ∧ (opAt l t = 4 ∨ opAt l t = 5) ∧ arAt l t = 0
  u1e : s.u1 = true ↔ ∃ t d e, t < k ∧ Rch l t d e ∧ t < l.length ∧ (opAt l t = 4 ∨ opAt l t = 5) ∧ arAt l t = 1

theorem rp_zero {l : List (Int × Int)} {t : Nat} {d e : Int} (h : RP l 0 t d e) : t = 0 ∧ d = 0 ∧ e = 0 := by
  rcases h with h | ⟨s, _, _, _, hs, _⟩
  · exact h
  · omega

theorem startS_D (n t : Nat) (h : t < n) : (startS n).D.getD t 0 = if t = 0 then 0 else -1 := by
  have e : (List.replicate n (-1 : Int)).getD t 0 = -1 := by simp [List.getD_eq_getElem?_getD, h]
  have e0 : (List.replicate n (-1 : Int)).getD 0 0 = -1 := by simp [List.getD_eq_getElem?_getD, show 0 < n by omega]
  unfold startS
  rw [comeS_D]
  simp only [List.length_replicate, e0, e]
  by_cases h0 : t = 0
  · rw [if_pos ⟨h0, by omega, by trivial⟩, if_pos h0]
  · rw [if_neg (fun q => h0 q.1), if_neg h0]

theorem startS_E (n t : Nat) (h : t < n) : (startS n).E.getD t 0 = 0 := by
  have e : (List.replicate n (0 : Int)).getD t 0 = 0 := by simp [List.getD_eq_getElem?_getD, h]
  have e0 : (List.replicate n (0 : Int)).getD 0 0 = 0 := by simp [List.getD_eq_getElem?_getD, show 0 < n by omega]
  unfold startS
  rw [comeS_E _ _ _ _ _ (by simp)]
  simp only [e0, e]
  split <;> rfl

theorem startS_len (n : Nat) : (startS n).D.length = n ∧ (startS n).E.length = n ∧ (startS n).mx = 0 ∧ (startS n).em = 0 ∧ (startS n).u0 = false ∧ (startS n).u1 = false := by
  obtain ⟨a, b, c, d, e, f⟩ := comeS_len ⟨List.replicate n (-1), List.replicate n 0, 0, 0, false, false⟩ 0 0 0
  unfold startS
  exact ⟨by rw [a]; simp, by rw [b]; simp, c, d, e, f⟩

theorem inv_start (l : List (Int × Int)) : InvC l 0 (startS l.length) := by
  obtain ⟨a, b, c, d, e, f⟩ := startS_len l.length
  refine ⟨a, b, fun t ht => ?_, fun t d' e' h => ?_, fun t d e h => by omega, ⟨0, 0, by rw [c]; exact .start⟩, ⟨0, 0, by rw [d]; exact .start⟩, ?_, ?_⟩
  · rw [startS_D _ _ ht, startS_E _ _ ht]
    by_cases h0 : t = 0
    · subst h0; right; refine ⟨by simp, Or.inl ⟨rfl, ?_, rfl⟩⟩; simp
    · left; exact ⟨if_neg h0, by trivial⟩
  · obtain ⟨rfl, rfl, rfl⟩ := rp_zero h
    refine ⟨by omega, by omega, by omega, by omega, by omega, by omega, fun q => ?_⟩
    rw [startS_D _ _ q, startS_E _ _ q]
    exact ⟨rfl, Int.le_refl _⟩
  · rw [e]; simp
  · rw [f]; simp

theorem inv_skip {l : List (Int × Int)} {k : Nat} {s : CkS} (I : InvC l k s) (hk : k < l.length) (h : s.D.getD k 0 = -1) : InvC l (k + 1) s := by
  have hno : ∀ d e, ¬ Rch l k d e := fun d e r => by
    have := I.ok k d e (rch_rp r (Or.inl (Nat.le_refl _)))
    have h2 := (this.2.2.2.2.2.2 hk).1
    omega
  have hrp : ∀ t d e, RP l (k + 1) t d e → RP l k t d e := fun t d e q => by
    rcases q with q | ⟨s', d', e', t', h1, h2, h3⟩
    · exact Or.inl q
    · refine Or.inr ⟨s', d', e', t', ?_, h2, h3⟩
      have : s' ≠ k := fun q => by subst q; exact hno _ _ h2
      omega
  refine ⟨I.lenD, I.lenE, fun t ht => ?_, fun t d e q => I.ok t d e (hrp _ _ _ q), fun t d e h1 r => ?_, I.mxe, I.eme, ?_, ?_⟩
  · rcases I.at_ t ht with q | ⟨q1, q2⟩
    · exact Or.inl q
    · refine Or.inr ⟨q1, ?_⟩
      rcases q2 with q | ⟨s', d', e', t', h1, h2⟩
      · exact Or.inl q
      · exact Or.inr ⟨s', d', e', t', by omega, h2⟩
  · by_cases ht : t = k
    · subst ht; exact absurd r (hno _ _)
    · exact I.fin t d e (by omega) r
  · rw [I.u0e]
    constructor
    · rintro ⟨t, d, e, h1, h2⟩; exact ⟨t, d, e, by omega, h2⟩
    · rintro ⟨t, d, e, h1, h2, h3⟩
      refine ⟨t, d, e, ?_, h2, h3⟩
      have : t ≠ k := fun q => by subst q; exact hno _ _ h2
      omega
  · rw [I.u1e]
    constructor
    · rintro ⟨t, d, e, h1, h2⟩; exact ⟨t, d, e, by omega, h2⟩
    · rintro ⟨t, d, e, h1, h2, h3⟩
      refine ⟨t, d, e, ?_, h2, h3⟩
      have : t ≠ k := fun q => by subst q; exact hno _ _ h2
      omega

theorem RP.mono {l : List (Int × Int)} {k t : Nat} {d e : Int} (h : RP l k t d e) : RP l (k + 1) t d e := by
  rcases h with q | ⟨s', d', e', t', h1, h2⟩
  · exact Or.inl q
  · exact Or.inr ⟨s', d', e', t', by omega, h2⟩

theorem left_zero (d : Int) : leftI 0 d = d := by unfold leftI tkI lvI; simp
theorem em_zero : emI 0 = 0 := by unfold emI; simp

theorem inv_here {l : List (Int × Int)} {k : Nat} {s : CkS} (I : InvC l k s) (hk : k < l.length) (h : s.D.getD k 0 ≠ -1) :
    Rch l k (s.D.getD k 0) (s.E.getD k 0) ∧ (0 ≤ s.D.getD k 0 ∧ s.D.getD k 0 ≤ 8 ∧ 0 ≤ s.E.getD k 0 ∧ s.E.getD k 0 ≤ 4 ∧ s.D.getD k 0 ≤ s.mx ∧ s.E.getD k 0 ≤ s.em) ∧ ∀ d e, Rch l k d e → d = s.D.getD k 0 ∧ 0 ≤ e ∧ e ≤ s.E.getD k 0 := by
  rcases I.at_ k hk with q | ⟨q1, q2⟩
  · exact absurd q.1 h
  · refine ⟨q2.rch, ?_, fun d e r => ?_⟩
    · have := I.ok _ _ _ q2
      exact ⟨this.1, this.2.1, this.2.2.1, this.2.2.2.1, this.2.2.2.2.1, this.2.2.2.2.2.1⟩
    · have := I.ok _ _ _ (rch_rp r (Or.inl (Nat.le_refl _)))
      have h2 := this.2.2.2.2.2.2 hk
      exact ⟨h2.1.symm, this.2.2.1, h2.2⟩

theorem rp_succ {l : List (Int × Int)} {k t : Nat} {d e : Int} (h : RP l (k + 1) t d e) : RP l k t d e ∨ ∃ d' e' t', Rch l k d' e' ∧ t' ∈ sucL l k ∧ t = min t' l.length ∧ d = leftI (opAt l k) d' ∧ e = e' + emI (opAt l k) := by
  rcases h with q | ⟨s', d', e', t', h1, h2, h3, h4, h5, h6, h7⟩
  · exact Or.inl (Or.inl q)
  · by_cases hs : s' = k
    · subst hs
      exact Or.inr ⟨d', e', t', h2, h4, h5, h6, h7⟩
    · exact Or.inl (Or.inr ⟨s', d', e', t', by omega, h2, h3, h4, h5, h6, h7⟩)

theorem inv_no {l : List (Int × Int)} {k : Nat} {s : CkS} (I : InvC l k s) (hk : k < l.length) (h : s.D.getD k 0 ≠ -1) (hp : passS s k (opAt l k) (arAt l k) = none) : ¬ Good l := by
  intro G
  obtain ⟨r, ⟨b1, b2, b3, b4, b5, b6⟩, hall⟩ := inv_here I hk h
  have htk := (G.fine _ _ _ r).2.2.2 hk
  have F : FineI l k (s.D.getD k 0) (s.E.getD k 0) := ⟨hk, b1, b2, b4, htk⟩
  unfold passS at hp
  split at hp
  · rename_i hq
    by_cases h0 : opAt l k = 0
    · rw [h0, left_zero, em_zero] at hq
      rw [h0] at htk
      omega
    · obtain ⟨t', ht'⟩ := suc_ne h0
      have := G.fine _ _ _ (Rch.step r F ht')
      omega
  · rename_i hq
    have hl0 : 0 ≤ leftI (opAt l k) (s.D.getD k 0) := by have := lv_lo (opAt l k); unfold leftI; omega
    obtain ⟨j, j1, j2, j3, j4⟩ := comes_none _ _ _ _ (by omega) hp
    simp only [useS] at j2 j3 j4
    have hjl : j < l.length := by rw [← I.lenD]; exact j2
    rcases I.at_ j hjl with q | ⟨q1, q2⟩
    · exact j3 q.1
    · have r2 := Rch.step r F j1
      rw [Nat.min_eq_left (by omega)] at r2
      exact j4 (G.one _ _ _ _ _ q2.rch r2 hjl)

theorem inv_pass {l : List (Int × Int)} {k : Nat} {s s' : CkS} (I : InvC l k s) (hk : k < l.length) (h : s.D.getD k 0 ≠ -1) (hp : passS s k (opAt l k) (arAt l k) = some s') : InvC l (k + 1) s' := by
  obtain ⟨r, ⟨b1, b2, b3, b4, b5, b6⟩, hall⟩ := inv_here I hk h
  unfold passS at hp
  split at hp
  · cases hp
  rename_i hq
  have hem := em_lo (opAt l k)
  have hl0 : 0 ≤ leftI (opAt l k) (s.D.getD k 0) := by have := lv_lo (opAt l k); unfold leftI; omega
  have F : ∀ d e, Rch l k d e → FineI l k d e := fun d e q => by
    obtain ⟨a1, a2, a3⟩ := hall d e q
    subst a1
    exact ⟨hk, b1, b2, by omega, by omega⟩
  obtain ⟨⟨c1, c2, c3, c4, c5, c6⟩, c7⟩ := comes_some _ _ _ _ _ (by omega) (by simp only [useS]; rw [I.lenE, I.lenD]) hp
  simp only [useS] at c1 c2 c3 c4 c5 c6 c7
  rw [show nextN k (opAt l k) (arAt l k) = sucL l k from rfl] at c7
  obtain ⟨dl, hdl⟩ : ∃ x, leftI (opAt l k) (s.D.getD k 0) = x := ⟨_, rfl⟩
  obtain ⟨el, hel⟩ : ∃ x, s.E.getD k 0 + emI (opAt l k) = x := ⟨_, rfl⟩
  rw [hdl] at c3 c7 hq hl0
  rw [hel] at c4 c7 hq
  have hsuc : ∀ t', t' ∈ sucL l k → Rch l (min t' l.length) dl el := fun t' ht' => by rw [← hdl, ← hel]; exact Rch.step r (F _ _ r) ht'
  have hsrp : ∀ t', t' ∈ sucL l k → RP l (k + 1) (min t' l.length) dl el := fun t' ht' => Or.inr ⟨k, _, _, t', by omega, r, F _ _ r, ht', rfl, hdl.symm, hel.symm⟩
  have lD := I.lenD
  have lE := I.lenE
  refine ⟨by omega, by omega, fun t ht => ?_, fun t d e q => ?_, fun t d e h1 q => ?_, ?_, ?_, ?_, ?_⟩
  · have c8 := c7 t (by omega)
    by_cases hm : t ∈ sucL l k
    · rw [if_pos hm] at c8
      obtain ⟨d1, d2, d3⟩ := c8
      right
      rw [d1, d3]
      refine ⟨hl0, ?_⟩
      have hr := hsrp t hm
      rw [Nat.min_eq_left (by omega)] at hr
      rcases I.at_ t ht with ⟨q1, q2⟩ | ⟨q1, q2⟩
      · rw [q2, show max 0 el = el by omega]; exact hr
      · have e1 : s.D.getD t 0 = dl := by omega
        by_cases hle : s.E.getD t 0 ≤ el
        · rw [show max (s.E.getD t 0) el = el by omega]; exact hr
        · rw [show max (s.E.getD t 0) el = s.E.getD t 0 by omega, ← e1]; exact q2.mono
    · rw [if_neg hm] at c8
      rw [c8.1, c8.2]
      rcases I.at_ t ht with q | ⟨q1, q2⟩
      · exact Or.inl q
      · exact Or.inr ⟨q1, q2.mono⟩
  · rcases rp_succ q with q | ⟨d', e', t', r1, r2, rfl, rfl, rfl⟩
    · obtain ⟨p1, p2, p3, p4, p5, p6, p7⟩ := I.ok t d e q
      refine ⟨p1, p2, p3, p4, by omega, by omega, fun ht => ?_⟩
      obtain ⟨p8, p9⟩ := p7 ht
      have c8 := c7 t (by omega)
      by_cases hm : t ∈ sucL l k
      · rw [if_pos hm] at c8
        obtain ⟨d1, d2, d3⟩ := c8
        exact ⟨by omega, by omega⟩
      · rw [if_neg hm] at c8
        exact ⟨by omega, by omega⟩
    · obtain ⟨a1, a2, a3⟩ := hall d' e' r1
      subst a1
      rw [hdl]
      refine ⟨by omega, by omega, by omega, by omega, by omega, by omega, fun ht => ?_⟩
      have hlt : t' < l.length := by omega
      rw [Nat.min_eq_left (by omega)]
      have c8 := c7 t' (by omega)
      rw [if_pos r2] at c8
      obtain ⟨d1, d2, d3⟩ := c8
      exact ⟨d1, by omega⟩
  · by_cases htk : t = k
    · subst htk; exact F _ _ q
    · exact I.fin t d e (by omega) q
  · rw [c3]
    obtain ⟨t0, e0, r0⟩ := I.mxe
    by_cases hle : dl ≤ s.mx
    · rw [show max s.mx dl = s.mx by omega]; exact ⟨t0, e0, r0⟩
    · rw [show max s.mx dl = dl by omega]
      by_cases h0 : opAt l k = 0
      · rw [h0, left_zero] at hdl; omega
      · obtain ⟨t', ht'⟩ := suc_ne h0
        exact ⟨_, _, hsuc t' ht'⟩
  · rw [c4]
    obtain ⟨t0, e0, r0⟩ := I.eme
    by_cases hle : el ≤ s.em
    · rw [show max s.em el = s.em by omega]; exact ⟨t0, e0, r0⟩
    · rw [show max s.em el = el by omega]
      by_cases h0 : opAt l k = 0
      · rw [h0, em_zero] at hel; omega
      · obtain ⟨t', ht'⟩ := suc_ne h0
        exact ⟨_, _, hsuc t' ht'⟩
  · rw [c5, Bool.or_eq_true, I.u0e, Bool.and_eq_true, decide_eq_true_eq, decide_eq_true_eq]
    constructor
    · rintro (⟨t, d, e, h1, h2⟩ | ⟨h1, h2⟩)
      · exact ⟨t, d, e, by omega, h2⟩
      · exact ⟨k, _, _, by omega, r, hk, h1, h2⟩
    · rintro ⟨t, d, e, h1, h2, h3, h4, h5⟩
      by_cases htk : t = k
      · subst htk; exact Or.inr ⟨h4, h5⟩
      · exact Or.inl ⟨t, d, e, by omega, h2, h3, h4, h5⟩
  · rw [c6, Bool.or_eq_true, I.u1e, Bool.and_eq_true, decide_eq_true_eq, decide_eq_true_eq]
    constructor
    · rintro (⟨t, d, e, h1, h2⟩ | ⟨h1, h2⟩)
      · exact ⟨t, d, e, by omega, h2⟩
      · exact ⟨k, _, _, by omega, r, hk, h1, h2⟩
    · rintro ⟨t, d, e, h1, h2, h3, h4, h5⟩
      by_cases htk : t = k
      · subst htk; exact Or.inr ⟨h4, h5⟩
      · exact Or.inl ⟨t, d, e, by omega, h2, h3, h4, h5⟩

theorem inv_to (l : List (Int × Int)) : ∀ k, k ≤ l.length → (∀ s, chkTo l k = some s → InvC l k s) ∧ (chkTo l k = none → ¬ Good l)
  | 0, _ => ⟨fun s h => by simp only [chkTo, Option.some.injEq] at h; subst h; exact inv_start l, fun h => by simp [chkTo] at h⟩
  | k + 1, hk => by
    obtain ⟨h1, h2⟩ := inv_to l k (by omega)
    unfold chkTo
    cases hc : chkTo l k with
    | none => exact ⟨fun s h => by simp at h, fun _ => h2 hc⟩
    | some s0 =>
      have I := h1 s0 hc
      rw [Option.bind_some]
      by_cases hd : s0.D.getD k 0 = -1
      · rw [if_pos hd]
        exact ⟨fun s h => by cases h; exact inv_skip I (by omega) hd, fun h => by cases h⟩
      · rw [if_neg hd]
        exact ⟨fun s h => inv_pass I (by omega) hd h, fun h => inv_no I (by omega) hd h⟩

theorem inv_sem {l : List (Int × Int)} {s : CkS} (I : InvC l l.length s) : Sem l s.D s.mx s.em s.u0 s.u1 := by
  have hall : ∀ t d e, Rch l t d e → RP l l.length t d e := fun t d e r => rch_rp r (Or.inr (Nat.le_refl _))
  refine ⟨I.lenD, fun t d e r => ?_, fun t ht => ?_, I.mxe, I.eme, ?_, ?_⟩
  · obtain ⟨p1, p2, p3, p4, p5, p6, p7⟩ := I.ok t d e (hall _ _ _ r)
    exact ⟨p1, p2, p3, p4, p5, p6, fun ht => ⟨(p7 ht).1, (I.fin t d e ht r).tk⟩⟩
  · rcases I.at_ t ht with q | ⟨q1, q2⟩
    · exact Or.inl q.1
    · exact Or.inr ⟨_, q2.rch⟩
  · rw [I.u0e]
    constructor
    · rintro ⟨t, d, e, h1, h2⟩; exact ⟨t, d, e, h2⟩
    · rintro ⟨t, d, e, h1, h2, h3⟩; exact ⟨t, d, e, h2, h1, h2, h3⟩
  · rw [I.u1e]
    constructor
    · rintro ⟨t, d, e, h1, h2⟩; exact ⟨t, d, e, h2⟩
    · rintro ⟨t, d, e, h1, h2, h3⟩; exact ⟨t, d, e, h2, h1, h2, h3⟩

theorem chk_some {l : List (Int × Int)} {s : CkS} (h : chk l = some s) : fitsL l = true ∧ Sem l s.D s.mx s.em s.u0 s.u1 := by
  unfold chk at h
  split at h
  · rename_i hf
    exact ⟨hf, inv_sem ((inv_to l _ (Nat.le_refl _)).1 _ h)⟩
  · cases h

theorem chk_none {l : List (Int × Int)} (hf : fitsL l = true) (h : chk l = none) : ¬ Good l := by
  unfold chk at h
  rw [if_pos hf] at h
  exact (inv_to l _ (Nat.le_refl _)).2 h

theorem chk_of_good {l : List (Int × Int)} (hf : fitsL l = true) (h : Good l) : ∃ s, chk l = some s := by
  cases hc : chk l with
  | none => exact absurd h (chk_none hf hc)
  | some s => exact ⟨s, rfl⟩

theorem chk_of_sem {l : List (Int × Int)} {D : List Int} {mx em : Int} {u0 u1 : Bool} (hf : fitsL l = true) (h : Sem l D mx em u0 u1) : ∃ s, chk l = some s ∧ s.D = D ∧ s.mx = mx ∧ s.em = em ∧ s.u0 = u0 ∧ s.u1 = u1 := by
  obtain ⟨s, hs⟩ := chk_of_good hf h.good
  exact ⟨s, hs, (chk_some hs).2.same h⟩

end Go.Proofs.YtfhlpbjdcdagjaaGreatDoor
