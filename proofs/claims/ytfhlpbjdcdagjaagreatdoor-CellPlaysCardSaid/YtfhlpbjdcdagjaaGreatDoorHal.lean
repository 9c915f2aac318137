/- Layer 7, cell: tables as plain things: what is kept at each place, in order. -/
import Derived.Test.YtfhlpbjdcdagjaaGreatDoorHak
import Derived.Sort.Statements
import Derived.Test.YtfhlpbjdcdagjaaGreatDoorHah
import Derived.Maps.RangeRun
import Derived.MapKept
import Derived.DeepKeys4
import Derived.Maps.Keyed
namespace Go.Proofs.YtfhlpbjdcdagjaaGreatDoor
open Go.RowKit Go.Lib
set_option linter.unusedVariables false
set_option maxRecDepth 100000

/-- Two cells. -/
abbrev C4 := (Int × Int) × (Int × Int)

abbrev CTab := Int → Int → C4

def z4 : C4 := ((0, 0), (0, 0))

def noTab : CTab := fun _ _ => z4

def setT (D : CTab) (n k : Int) (c : C4) : CTab := fun n' k' => if n' = n ∧ k' = k then c else D n' k'

def nodeB (n : Int) : Bool := decide (0 ≤ n) && decide (n < 8)

def keyB (k : Int) : Bool := decide (0 ≤ k) && decide (k < 64)

def rgt4 (c : C4) : Bool := rgtB c.1 && rgtB c.2

/-- What may be set. -/
def setB (n k : Int) (c : C4) : Bool := nodeB n && keyB k && rgt4 c

/-- A table has right cells at places that there are alone. -/
def OkT (D : CTab) : Prop := ∀ n k, D n k ≠ z4 → nodeB n = true ∧ keyB k = true ∧ rgt4 (D n k) = true

theorem OkT.none : OkT noTab := fun n k h => absurd rfl h

theorem rgt4_z4 : rgt4 z4 = true := by simp [rgt4, z4, rgtB, into]

theorem OkT.right {D : CTab} (h : OkT D) (n k : Int) : rgt4 (D n k) = true := by
  by_cases e : D n k = z4
  · rw [e]; exact rgt4_z4
  · exact (h n k e).2.2

theorem OkT.set {D : CTab} (h : OkT D) {n k : Int} {c : C4} (hs : setB n k c = true) : OkT (setT D n k c) := by
  intro n' k' hz
  unfold setT at hz ⊢
  split
  · rename_i e
    rw [e.1, e.2]
    unfold setB at hs
    simp only [Bool.and_eq_true] at hs
    exact ⟨hs.1.1, hs.1.2, hs.2⟩
  · rename_i e
    rw [if_neg e] at hz
    exact h n' k' hz

theorem setT_same (D : CTab) (n k : Int) (c : C4) : setT D n k c n k = c := by simp [setT]

theorem setT_other (D : CTab) {n k n' k' : Int} (c : C4) (h : ¬ (n' = n ∧ k' = k)) : setT D n k c n' k' = D n' k' := by simp [setT, h]

theorem setT_id (D : CTab) (n k : Int) : setT D n k (D n k) = D := by
  funext n' k'
  unfold setT
  split
  · rename_i h; rw [h.1, h.2]
  · rfl

theorem setT_comm (D : CTab) {n k n' k' : Int} (c c' : C4) (h : ¬ (n' = n ∧ k' = k)) : setT (setT D n k c) n' k' c' = setT (setT D n' k' c') n k c := by
  funext a b
  unfold setT
  by_cases h1 : a = n' ∧ b = k'
  · have h2 : ¬ (a = n ∧ b = k) := fun h2 => h ⟨h1.1.symm.trans h2.1, h1.2.symm.trans h2.2⟩
    rw [if_pos h1, if_neg h2, if_pos h1]
  · rw [if_neg h1, if_neg h1]

/-- An entry. -/
abbrev Ent := (Int × Int) × C4

def plc (i : Nat) : Int × Int := (((i / 64 : Nat) : Int), ((i % 64 : Nat) : Int))

/-- What stands at the i-th place, if it is kept and asked for. -/
def entAt (D : CTab) (S : Int × Int → Bool) (i : Nat) : List Ent := if D (plc i).1 (plc i).2 ≠ z4 ∧ S (plc i) = true then [(plc i, D (plc i).1 (plc i).2)] else []

def entsTo (D : CTab) (S : Int × Int → Bool) (m : Nat) : List Ent := (List.range m).flatMap (entAt D S)

/-- All that is kept and asked for, by nodes, then by keys. -/
def ents (D : CTab) (S : Int × Int → Bool) : List Ent := entsTo D S 512

theorem entsTo_succ (D : CTab) (S : Int × Int → Bool) (m : Nat) : entsTo D S (m + 1) = entsTo D S m ++ entAt D S m := by
  unfold entsTo
  rw [List.range_succ, List.flatMap_append]
  simp

def LtE (x y : Ent) : Prop := x.1.1 < y.1.1 ∨ (x.1.1 = y.1.1 ∧ x.1.2 < y.1.2)

theorem mem_entAt {D : CTab} {S : Int × Int → Bool} {i : Nat} {x : Ent} : x ∈ entAt D S i ↔ x.1 = plc i ∧ D x.1.1 x.1.2 = x.2 ∧ x.2 ≠ z4 ∧ S x.1 = true := by
  unfold entAt
  split
  · rename_i h
    rw [List.mem_singleton]
    constructor
    · rintro rfl
      exact ⟨rfl, rfl, h.1, h.2⟩
    · rintro ⟨h1, h2, _, _⟩
      obtain ⟨p, c⟩ := x
      simp only at h1 h2
      subst h1; subst h2
      rfl
  · rename_i h
    constructor
    · intro hx; cases hx
    · rintro ⟨h1, h2, h3, h4⟩
      refine absurd ⟨?_, ?_⟩ h
      · rw [← h1, h2]; exact h3
      · rw [← h1]; exact h4

theorem plc_lt {i j : Nat} (h : i < j) : (plc i).1 < (plc j).1 ∨ ((plc i).1 = (plc j).1 ∧ (plc i).2 < (plc j).2) := by
  unfold plc
  simp only
  omega

theorem plc_of {n k : Int} (hn : nodeB n = true) (hk : keyB k = true) : ∃ i, i < 512 ∧ plc i = (n, k) := by
  unfold nodeB at hn; unfold keyB at hk
  simp only [Bool.and_eq_true, decide_eq_true_eq] at hn hk
  refine ⟨(n * 64 + k).toNat, by omega, ?_⟩
  unfold plc
  ext <;> simp only <;> omega

theorem plc_in {i : Nat} (h : i < 512) : nodeB (plc i).1 = true ∧ keyB (plc i).2 = true := by
  unfold plc nodeB keyB
  simp only [Bool.and_eq_true, decide_eq_true_eq]
  omega

theorem mem_entsTo {D : CTab} {S : Int × Int → Bool} {m : Nat} {x : Ent} : x ∈ entsTo D S m ↔ (∃ i, i < m ∧ x.1 = plc i) ∧ D x.1.1 x.1.2 = x.2 ∧ x.2 ≠ z4 ∧ S x.1 = true := by
  unfold entsTo
  rw [List.mem_flatMap]
  constructor
  · rintro ⟨i, hi, hx⟩
    have := mem_entAt.1 hx
    exact ⟨⟨i, List.mem_range.1 hi, this.1⟩, this.2⟩
  · rintro ⟨⟨i, hi, h1⟩, h2⟩
    exact ⟨i, List.mem_range.2 hi, mem_entAt.2 ⟨h1, h2⟩⟩

theorem mem_ents {D : CTab} (h : OkT D) {S : Int × Int → Bool} {x : Ent} : x ∈ ents D S ↔ D x.1.1 x.1.2 = x.2 ∧ x.2 ≠ z4 ∧ S x.1 = true := by
  unfold ents
  rw [mem_entsTo]
  constructor
  · exact fun h => h.2
  · intro h2
    obtain ⟨a, b, _⟩ := h x.1.1 x.1.2 (by rw [h2.1]; exact h2.2.1)
    obtain ⟨i, hi, he⟩ := plc_of a b
    exact ⟨⟨i, hi, he.symm⟩, h2⟩

theorem entsTo_sorted (D : CTab) (S : Int × Int → Bool) : ∀ m, (entsTo D S m).Pairwise LtE
  | 0 => by simp [entsTo]
  | m + 1 => by
    rw [entsTo_succ]
    refine List.pairwise_append.2 ⟨entsTo_sorted D S m, ?_, ?_⟩
    · unfold entAt; split <;> simp
    · intro x hx y hy
      obtain ⟨⟨i, hi, h1⟩, _⟩ := mem_entsTo.1 hx
      have h2 := (mem_entAt.1 hy).1
      unfold LtE
      rw [h1, h2]
      exact plc_lt hi

theorem entAt_len (D : CTab) (S : Int × Int → Bool) (i : Nat) : (entAt D S i).length ≤ 1 := by
  unfold entAt; split <;> simp

theorem entsTo_len (D : CTab) (S : Int × Int → Bool) : ∀ m, (entsTo D S m).length ≤ m
  | 0 => by simp [entsTo]
  | m + 1 => by
    rw [entsTo_succ, List.length_append]
    have := entsTo_len D S m
    have := entAt_len D S m
    omega

theorem ents_len (D : CTab) (S : Int × Int → Bool) : (ents D S).length ≤ 512 := entsTo_len D S 512

/-- Two lists of the same members, both rising, are one. -/
theorem rising_eq : ∀ {l m : List Ent}, l.Pairwise LtE → m.Pairwise LtE → (∀ x, x ∈ l ↔ x ∈ m) → l = m
  | [], [], _, _, _ => rfl
  | [], y :: m, _, _, h => absurd ((h y).2 (by simp)) (by simp)
  | x :: l, [], _, _, h => absurd ((h x).1 (by simp)) (by simp)
  | x :: l, y :: m, hl, hm, h => by
    obtain ⟨h1, h2⟩ := List.pairwise_cons.1 hl
    obtain ⟨h3, h4⟩ := List.pairwise_cons.1 hm
    have hxy : x = y := by
      rcases List.mem_cons.1 ((h x).1 (by simp)) with e | e
      · exact e
      · rcases List.mem_cons.1 ((h y).2 (by simp)) with e' | e'
        · exact e'.symm
        · have a := h3 x e
          have b := h1 y e'
          unfold LtE at a b
          omega
    subst hxy
    refine congrArg (x :: ·) (rising_eq h2 h4 fun z => ?_)
    constructor
    · intro hz
      rcases List.mem_cons.1 ((h z).1 (List.mem_cons_of_mem _ hz)) with e | e
      · subst e
        have := h1 z hz
        unfold LtE at this
        omega
      · exact e
    · intro hz
      rcases List.mem_cons.1 ((h z).2 (List.mem_cons_of_mem _ hz)) with e | e
      · subst e
        have := h3 z hz
        unfold LtE at this
        omega
      · exact e

/-- A list whose members lie at unlike places, all among those of a rising one, is no longer. -/
theorem len_le_of : ∀ {l m : List Ent}, l.Pairwise (fun x y => x.1 ≠ y.1) → m.Pairwise LtE → (∀ x ∈ l, x ∈ m) → l.length ≤ m.length := by
  intro l
  induction l with
  | nil => intro m _ _ _; simp
  | cons x l ih =>
    intro m h1 h2 h3
    obtain ⟨a, b⟩ := List.pairwise_cons.1 h1
    obtain ⟨p, q, rfl⟩ := List.append_of_mem (h3 x (by simp))
    have h4 : (p ++ q).Pairwise LtE := h2.sublist (List.Sublist.append (List.Sublist.refl p) (List.sublist_cons_self x q))
    have := ih b h4 (fun y hy => by
      rcases List.mem_append.1 (h3 y (List.mem_cons_of_mem _ hy)) with e | e
      · exact List.mem_append_left _ e
      · rcases List.mem_cons.1 e with e | e
        · exact absurd (congrArg Prod.fst e).symm (a y hy)
        · exact List.mem_append_right _ e)
    simp only [List.length_append, List.length_cons] at this ⊢
    omega

/-- Entries set one by one. -/
def setsT (D : CTab) (l : List Ent) : CTab := l.foldl (fun D x => setT D x.1.1 x.1.2 x.2) D

theorem setsT_snoc (D : CTab) (l : List Ent) (x : Ent) : setsT D (l ++ [x]) = setT (setsT D l) x.1.1 x.1.2 x.2 := by simp [setsT]

def entB (x : Ent) : Bool := setB x.1.1 x.1.2 x.2

theorem OkT.sets {D : CTab} (h : OkT D) : ∀ {l : List Ent}, l.all entB = true → OkT (setsT D l) := by
  intro l
  induction l generalizing D with
  | nil => intro _; exact h
  | cons x l ih =>
    intro hl
    rw [List.all_cons, Bool.and_eq_true] at hl
    exact ih (h.set hl.1) hl.2

theorem setsT_at (D : CTab) : ∀ (l : List Ent) (n k : Int), (∀ x ∈ l, x.1 ≠ (n, k)) → setsT D l n k = D n k := by
  intro l
  induction l generalizing D with
  | nil => intro n k _; rfl
  | cons x l ih =>
    intro n k h
    show setsT (setT D x.1.1 x.1.2 x.2) l n k = _
    rw [ih _ n k (fun y hy => h y (List.mem_cons_of_mem _ hy)), setT_other]
    rintro ⟨e1, e2⟩
    exact h x (by simp) (by ext <;> simp [e1, e2])

theorem setsT_mem : ∀ (l : List Ent) (D : CTab), l.Pairwise (fun x y => x.1 ≠ y.1) → ∀ x ∈ l, setsT D l x.1.1 x.1.2 = x.2 := by
  intro l
  induction l with
  | nil => intro D _ x hx; cases hx
  | cons y l ih =>
    intro D hp x hx
    obtain ⟨a, b⟩ := List.pairwise_cons.1 hp
    rcases List.mem_cons.1 hx with rfl | hx
    · show setsT (setT D x.1.1 x.1.2 x.2) l x.1.1 x.1.2 = _
      rw [setsT_at _ l _ _ (fun z hz e => a z hz (by rw [e])), setT_same]
    · exact ih _ b x hx

theorem ents_apart (D : CTab) (S : Int × Int → Bool) : (ents D S).Pairwise (fun x y => x.1 ≠ y.1) :=
  (entsTo_sorted D S 512).imp fun {x y} h e => by
    unfold LtE at h
    rw [e] at h
    omega

/-- A table made anew of all that is kept is the same. -/
theorem sets_ents {D : CTab} (h : OkT D) : setsT noTab (ents D fun _ => true) = D := by
  funext n k
  by_cases e : D n k = z4
  · rw [setsT_at]
    · exact e.symm
    · intro x hx ex
      have := (mem_ents h).1 hx
      obtain ⟨p, c⟩ := x
      simp only at ex this
      subst ex
      exact this.2.1 (this.1.symm.trans e)
  · exact setsT_mem _ _ (ents_apart D _) ((n, k), D n k) ((mem_ents h).2 ⟨rfl, e, rfl⟩)

theorem ents_all {D : CTab} (h : OkT D) (S : Int × Int → Bool) : (ents D S).all entB = true := by
  rw [List.all_eq_true]
  intro x hx
  obtain ⟨h1, h2, h3⟩ := (mem_ents h).1 hx
  obtain ⟨a, b, c⟩ := h x.1.1 x.1.2 (by rw [h1]; exact h2)
  unfold entB setB
  rw [a, b, ← h1, c]
  rfl

/-- Dropped. -/
def dropT (D : CTab) (S : Int × Int → Bool) : CTab := fun n k => if S (n, k) = true then z4 else D n k

theorem OkT.drop {D : CTab} (h : OkT D) (S : Int × Int → Bool) : OkT (dropT D S) := by
  intro n k hz
  unfold dropT at hz ⊢
  split
  · rename_i e; rw [if_pos e] at hz; exact absurd rfl hz
  · rename_i e; rw [if_neg e] at hz; exact h n k hz

/-- Groups of a node. -/
def amongB (node : Int) (gs : List Int) (p : Int × Int) : Bool := decide (p.1 = node) && gs.contains (p.2 % 8)

theorem entsTo_ext {D D' : CTab} {S S' : Int × Int → Bool} : ∀ m, (∀ i, i < m → entAt D S i = entAt D' S' i) → entsTo D S m = entsTo D' S' m
  | 0, _ => rfl
  | m + 1, h => by rw [entsTo_succ, entsTo_succ, entsTo_ext m (fun i hi => h i (by omega)), h m (by omega)]

theorem ents_ext {D D' : CTab} {S S' : Int × Int → Bool} (h : ∀ p : Int × Int, nodeB p.1 = true → keyB p.2 = true → (if D p.1 p.2 ≠ z4 ∧ S p = true then some (D p.1 p.2) else none) = (if D' p.1 p.2 ≠ z4 ∧ S' p = true then some (D' p.1 p.2) else none)) : ents D S = ents D' S' := by
  refine entsTo_ext 512 fun i hi => ?_
  obtain ⟨a, b⟩ := plc_in hi
  have := h (plc i) a b
  unfold entAt
  split
  · rename_i e
    rw [if_pos e] at this
    split
    · rename_i e2
      rw [if_pos e2] at this
      injection this with this
      rw [this]
    · rename_i e2
      rw [if_neg e2] at this
      cases this
  · rename_i e
    rw [if_neg e] at this
    split
    · rename_i e2
      rw [if_pos e2] at this
      cases this
    · rfl

theorem ents_congr {D : CTab} {S S' : Int × Int → Bool} (h : ∀ p : Int × Int, nodeB p.1 = true → keyB p.2 = true → S p = S' p) : ents D S = ents D S' :=
  ents_ext fun p a b => by rw [h p a b]

/-- Parted by what is asked for. -/
theorem ents_add {D : CTab} {S1 S2 S : Int × Int → Bool} (h : ∀ p : Int × Int, nodeB p.1 = true → keyB p.2 = true → S p = (S1 p || S2 p) ∧ (S1 p && S2 p) = false) : (ents D S1).length + (ents D S2).length = (ents D S).length := by
  have key : ∀ m, m ≤ 512 → (entsTo D S1 m).length + (entsTo D S2 m).length = (entsTo D S m).length := by
    intro m
    induction m with
    | zero => intro _; simp [entsTo]
    | succ m ih =>
      intro hm
      have := ih (by omega)
      obtain ⟨a, b⟩ := plc_in (i := m) (by omega)
      obtain ⟨e1, e2⟩ := h (plc m) a b
      rw [entsTo_succ, entsTo_succ, entsTo_succ]
      simp only [List.length_append]
      have e3 : (entAt D S1 m).length + (entAt D S2 m).length = (entAt D S m).length := by
        unfold entAt
        rw [e1]
        by_cases hz : D (plc m).1 (plc m).2 = z4
        · simp [hz]
        · cases h1 : S1 (plc m) <;> cases h2 : S2 (plc m) <;> rw [h1, h2] at e2 <;> simp_all
      omega
  exact key 512 (Nat.le_refl _)

/-- Dropped: the others stay. -/
theorem ents_drop (D : CTab) (S S' : Int × Int → Bool) : ents (dropT D S) S' = ents D (fun p => !S p && S' p) := by
  refine ents_ext fun p _ _ => ?_
  unfold dropT
  cases S (p.1, p.2) <;> simp

theorem ents_none (D : CTab) : ents D (fun _ => false) = [] := by
  have : ∀ m, entsTo D (fun _ => false) m = [] := by
    intro m
    induction m with
    | zero => rfl
    | succ m ih => rw [entsTo_succ, ih]; simp [entAt]
  exact this 512

theorem drop_len (D : CTab) (S : Int × Int → Bool) : (ents (dropT D S) fun _ => true).length + (ents D S).length = (ents D fun _ => true).length := by
  rw [ents_drop]
  refine ents_add fun p _ _ => ?_
  cases S p <;> simp

theorem drop_gone (D : CTab) (S : Int × Int → Bool) : ents (dropT D S) S = [] := by
  rw [ents_drop, ← ents_none D]
  exact ents_congr fun p _ _ => by cases S p <;> rfl

theorem drop_other (D : CTab) {n n' : Int} (h : n' ≠ n) (gs gs' : List Int) : ents (dropT D (amongB n gs)) (amongB n' gs') = ents D (amongB n' gs') := by
  rw [ents_drop]
  refine ents_congr fun p _ _ => ?_
  unfold amongB
  by_cases e : p.1 = n'
  · have : ¬ p.1 = n := fun e2 => h (e.symm.trans e2)
    simp [e, h]
  · simp [e]

/-- The node and group of a place, as a number. -/
def nodeGroup (p : Int × Int) : Int := p.1 * 8 + p.2 % 8

theorem group_step (D : CTab) (n g : Nat) (hn : n < 8) (hg : g < 8) :
    (ents D fun p => decide (nodeGroup p < (n * 8 + g : Nat))).length + (ents D (amongB n [(g : Int)])).length = (ents D fun p => decide (nodeGroup p < (n * 8 + g + 1 : Nat))).length := by
  refine ents_add fun p a b => ?_
  unfold nodeB at a; unfold keyB at b
  simp only [Bool.and_eq_true, decide_eq_true_eq] at a b
  unfold amongB nodeGroup
  by_cases h1 : p.1 = n
  · by_cases h2 : p.2 % 8 = g
    · simp [h1, h2]; omega
    · simp [h1, h2]; omega
  · simp [h1]; omega

theorem group_all (D : CTab) : (ents D fun p => decide (nodeGroup p < (64 : Nat))) = ents D fun _ => true := by
  refine ents_congr fun p a b => ?_
  unfold nodeB at a; unfold keyB at b
  simp only [Bool.and_eq_true, decide_eq_true_eq] at a b
  unfold nodeGroup
  simp
  omega

theorem group_none (D : CTab) : (ents D fun p => decide (nodeGroup p < (0 : Nat))) = [] := by
  rw [← ents_none D]
  refine ents_congr fun p a b => ?_
  unfold nodeB at a; unfold keyB at b
  simp only [Bool.and_eq_true, decide_eq_true_eq] at a b
  unfold nodeGroup
  simp
  omega

end Go.Proofs.YtfhlpbjdcdagjaaGreatDoor

namespace Go.Proofs.YtfhlpbjdcdagjaaGreatDoor
open Go.RowKit Go.MapKept
open Go.ChangeMaps (setBlock)
open Go.Maps (Keyed)
set_option linter.unusedVariables false
set_option maxRecDepth 100000

abbrev plcV (p : Int × Int) : Value := .agg #[.int .i64 p.1, .int .i64 p.2]

abbrev c4V (c : C4) : Value := .agg #[.int .i64 c.1.1, .int .i64 c.1.2, .int .i64 c.2.1, .int .i64 c.2.2]

def encKV (x : Ent) : Value × Value := (plcV x.1, c4V x.2)

theorem plcV_inj {p q : Int × Int} (h : plcV p = plcV q) : p = q := by
  obtain ⟨a, b⟩ := p
  obtain ⟨c, d⟩ := q
  simp only [plcV] at h
  simp at h
  rw [h.1, h.2]

theorem laid7 : laidOutB Tryz.prog = true := by kernel_rfl

theorem rowPlc : (76 : TypeId) < Tryz.prog.types.size := of_decide_eq_true (by kernel_rfl)

theorem widePlc : (match Tryz.prog.underlying 76 with | some (.array _ _) | some (.struct _) => true | _ => false) = true := by kernel_rfl

theorem keyedPlc : Keyed Tryz.prog 76 := Keyed.of_law (deep_law_laid laid7 (m := 2) (by omega) rowPlc (by kernel_rfl) widePlc)

theorem cellsPlc : Tryz.prog.cellsOf 76 = 2 := by kernel_rfl

theorem cellsInt7 : Tryz.prog.cellsOf 3 = 1 := by kernel_rfl

theorem ktPlc : Tryz.prog.keyType 76 = true := by kernel_rfl

def Wf2 (x : Int × Int) : Prop := (Lit.int .i64 x.1).wf = true ∧ (Lit.int .i64 x.2).wf = true

theorem key_plc {x : Int × Int} (h : Wf2 x) : ∃ i, keyOf Tryz.prog 76 (plcV x) = some i := by
  obtain ⟨a, d⟩ := x
  obtain ⟨h1, h2⟩ := h
  unfold keyOf
  rw [Tryz.underlying76]
  simp only
  rw [ktPlc]
  have hf : (plcV (a, d)).formed Tryz.prog 76 = true := by simp [Value.formed, Tryz.underlying76, cellsPlc]
  rw [hf]
  simp only [Bool.and_self, if_true]
  obtain ⟨m, hm⟩ : ∃ m, Tryz.prog.types.size = m + 1 := Nat.exists_eq_succ_of_ne_zero (Nat.ne_of_gt (Nat.lt_of_le_of_lt (Nat.zero_le _) rowPlc))
  rw [hm]
  simp only at h1 h2
  refine ⟨.string (keyBytes [.int .i64 a, .int .i64 d]), ?_⟩
  simp [Program.keyLits, Tryz.underlying76, Tryz.underlying3, cellsPlc, cellsInt7, Value.cells, h1, h2, show List.range 2 = [0, 1] from rfl]

theorem wf_small {n : Int} (h0 : -9223372036854775808 ≤ n) (h1 : n ≤ 9223372036854775807) : (Lit.int .i64 n).wf = true := by
  simp [Lit.wf, IntKind.min, IntKind.max, IntKind.bits, IntKind.signed]
  omega

theorem wf_place {n k : Int} (h : nodeB n = true) (h2 : keyB k = true) : Wf2 (n, k) := by
  unfold nodeB at h; unfold keyB at h2
  simp only [Bool.and_eq_true, decide_eq_true_eq] at h h2
  exact ⟨wf_small (by simp only; omega) (by simp only; omega), wf_small (by simp only; omega) (by simp only; omega)⟩

/-- Block b is a map that keeps just what D says; L: its entries, as they were laid. -/
structure TabM (w : World) (b : Nat) (D : CTab) (es : Array MapEntry) (clock : Nat) (L : List Ent) : Prop where
  blk : w.heap[b]? = some (.map es clock)
  born : ∀ x ∈ es.toList, x.born < clock
  once : (es.toList.map (·.born)).Nodup
  l : es.toList.map (fun e => (e.key, e.val)) = L.map encKV
  ap : L.Pairwise (fun x y => x.1 ≠ y.1)
  mem : ∀ x, x ∈ L ↔ D x.1.1 x.1.2 = x.2 ∧ x.2 ≠ z4
  ok : OkT D

def TabMap (w : World) (b : Nat) (D : CTab) : Prop := ∃ es clock L, TabM w b D es clock L

section
variable {w w' : World} {b : Nat} {D : CTab} {es : Array MapEntry} {clock : Nat} {L : List Ent}

theorem TabM.lt (h : TabM w b D es clock L) : b < w.heap.size := (Array.getElem?_eq_some_iff.1 h.blk).1

theorem TabM.keep (h : TabM w b D es clock L) (hk : w'.heap[b]? = w.heap[b]?) : TabM w' b D es clock L := ⟨hk.trans h.blk, h.born, h.once, h.l, h.ap, h.mem, h.ok⟩

theorem TabMap.keep (h : TabMap w b D) (hk : w'.heap[b]? = w.heap[b]?) : TabMap w' b D := by
  obtain ⟨es, c, L, h⟩ := h
  exact ⟨es, c, L, h.keep hk⟩

theorem TabMap.lt (h : TabMap w b D) : b < w.heap.size := by
  obtain ⟨es, c, L, h⟩ := h
  exact h.lt

theorem TabMap.ok (h : TabMap w b D) : OkT D := by
  obtain ⟨es, c, L, h⟩ := h
  exact h.ok

theorem TabMap.new (w : World) : TabMap (w.alloc (.map #[] 0)) w.heap.size noTab :=
  ⟨#[], 0, [], heap_alloc_new w _, by simp, by simp, by simp, by simp, fun x => ⟨fun h => absurd h (by simp), fun h => absurd h.1.symm h.2⟩, OkT.none⟩

theorem TabM.at_ (h : TabM w b D es clock L) {x : MapEntry} (hx : x ∈ es.toList) : ∃ y ∈ L, x.key = plcV y.1 ∧ x.val = c4V y.2 := by
  have : (x.key, x.val) ∈ L.map encKV := by rw [← h.l]; exact List.mem_map.2 ⟨x, hx, rfl⟩
  obtain ⟨y, hy, e⟩ := List.mem_map.1 this
  unfold encKV at e
  injection e with e1 e2
  exact ⟨y, hy, e1.symm, e2.symm⟩

theorem TabM.place (h : TabM w b D es clock L) {y : Ent} (hy : y ∈ L) : nodeB y.1.1 = true ∧ keyB y.1.2 = true ∧ rgt4 y.2 = true := by
  obtain ⟨h1, h2⟩ := (h.mem y).1 hy
  have := h.ok y.1.1 y.1.2 (by rw [h1]; exact h2)
  rw [h1] at this
  exact this

theorem TabM.keys (h : TabM w b D es clock L) : ∀ x ∈ es.toList, ∃ i, keyOf Tryz.prog 76 x.key = some i := by
  intro x hx
  obtain ⟨y, hy, e1, _⟩ := h.at_ hx
  obtain ⟨a, c, _⟩ := h.place hy
  rw [e1]
  exact key_plc (wf_place a c)

theorem TabM.len (h : TabM w b D es clock L) : es.size = L.length ∧ L.length ≤ 512 := by
  refine ⟨by have := congrArg List.length h.l; simpa using this, ?_⟩
  refine Nat.le_trans (len_le_of (m := ents D fun _ => true) h.ap (entsTo_sorted D _ 512) fun x hx => ?_) (ents_len D _)
  exact (mem_ents h.ok).2 ⟨((h.mem x).1 hx).1, ((h.mem x).1 hx).2, rfl⟩

theorem TabM.find (h : TabM w b D es clock L) {p : Int × Int} (hw : Wf2 p) (W : World) :
    ((Instr.findKey 76 (plcV p) es.toList).run Tryz.prog W = .ok none W ∧ D p.1 p.2 = z4 ∧ ∀ y ∈ L, y.1 ≠ p) ∨
    ∃ j e0 A B, (Instr.findKey 76 (plcV p) es.toList).run Tryz.prog W = .ok (some (j, e0.val)) W ∧ es.toList[j]? = some e0 ∧ e0.key = plcV p ∧ e0.val = c4V (D p.1 p.2) ∧ D p.1 p.2 ≠ z4 ∧ L = A ++ (p, D p.1 p.2) :: B ∧ A.length = j := by
  obtain ⟨i, hi⟩ := key_plc hw
  rcases keyedPlc.find W hi es.toList h.keys with ⟨h1, h2⟩ | ⟨j, e0, h1, h2, h3⟩
  · refine .inl ⟨h1, ?_, ?_⟩
    · apply Classical.byContradiction
      intro hz
      have hm : (p, D p.1 p.2) ∈ L := (h.mem _).2 ⟨rfl, hz⟩
      have : encKV (p, D p.1 p.2) ∈ es.toList.map (fun e => (e.key, e.val)) := by rw [h.l]; exact List.mem_map.2 ⟨_, hm, rfl⟩
      obtain ⟨x, hx, e⟩ := List.mem_map.1 this
      unfold encKV at e
      injection e with e1 e2
      exact h2 x hx e1
    · intro y hy e
      have : encKV y ∈ es.toList.map (fun e => (e.key, e.val)) := by rw [h.l]; exact List.mem_map.2 ⟨_, hy, rfl⟩
      obtain ⟨x, hx, e'⟩ := List.mem_map.1 this
      unfold encKV at e'
      injection e' with e1 e2
      exact h2 x hx (by rw [e1, e])
  · have hj : (es.toList.map (fun e => (e.key, e.val)))[j]? = some (e0.key, e0.val) := by rw [List.getElem?_map, h2]; rfl
    rw [h.l, List.getElem?_map] at hj
    cases hy : L[j]? with
    | none => rw [hy] at hj; cases hj
    | some y =>
      rw [hy] at hj
      simp only [Option.map_some, Option.some.injEq] at hj
      unfold encKV at hj
      injection hj with e1 e2
      have ep : y.1 = p := plcV_inj (e1.trans h3)
      have hym : y ∈ L := List.mem_of_getElem? hy
      obtain ⟨m1, m2⟩ := (h.mem y).1 hym
      rw [ep] at m1
      have hlt : j < L.length := by
        rcases Nat.lt_or_ge j L.length with q | q
        · exact q
        · rw [List.getElem?_eq_none q] at hy; cases hy
      refine .inr ⟨j, e0, L.take j, L.drop (j + 1), h1, h2, h3, by rw [m1]; exact e2.symm, by rw [m1]; exact m2, ?_, by rw [List.length_take]; omega⟩
      have : L[j] = y := by rw [List.getElem?_eq_getElem hlt] at hy; injection hy
      have ey : y = (p, D p.1 p.2) := by rw [m1, ← ep]
      rw [← ey, ← this]
      simp

/-- What is looked up. -/
theorem TabM.look (h : TabM w b D es clock L) {p : Int × Int} (hw : Wf2 p) : (Instr.lookup 70 (.map (some b)) (plcV p) false).run Tryz.prog w = .ok (c4V (D p.1 p.2)) w := by
  obtain ⟨i, hi⟩ := key_plc hw
  rcases h.find hw w with ⟨h1, h2, _⟩ | ⟨j, e0, A, B, h1, _, _, h4, _⟩
  · have hz : (zeroValue 32).run Tryz.prog w = .ok (c4V z4) w := Tryz.zeroValue32 w
    rw [h2]
    simp [Instr.lookup, run_underlying Tryz.underlying70, MapKept.run_getObj_map h.blk, keyedPlc.check w _ hi, h1, hz, Result.andThen]
  · rw [← h4]
    simp [Instr.lookup, run_underlying Tryz.underlying70, MapKept.run_getObj_map h.blk, keyedPlc.check w _ hi, h1, Result.andThen]

theorem look_nil (w : World) {p : Int × Int} (hw : Wf2 p) : (Instr.lookup 70 (.map none) (plcV p) false).run Tryz.prog w = .ok (c4V z4) w := by
  obtain ⟨i, hi⟩ := key_plc hw
  have hz : (zeroValue 32).run Tryz.prog w = .ok (c4V z4) w := Tryz.zeroValue32 w
  rcases keyedPlc.find w hi [] (by simp) with ⟨h1, _⟩ | ⟨j, e0, _, h2, _⟩
  · simp [Instr.lookup, run_underlying Tryz.underlying70, keyedPlc.check w _ hi, h1, hz, Result.andThen]
  · simp at h2

theorem grown_setBlock (w : World) (b : Nat) (hb : ∃ o, w.heap[b]? = some o) (o : Obj) : w.grownBy (setBlock w b o) (some b) := by
  obtain ⟨o', hb⟩ := hb
  exact ⟨rfl, rfl, rfl, by simp [setBlock], fun i _ hi => by
    unfold setBlock
    exact Array.getElem?_setIfInBounds_ne (fun e => hi (by rw [e]))⟩

theorem block_setBlock {w : World} {b : Nat} {o : Obj} (hb : ∃ o, w.heap[b]? = some o) : (setBlock w b o).heap[b]? = some o := by
  obtain ⟨o', hb⟩ := hb
  have := (Array.getElem?_eq_some_iff.1 hb).1
  simp [setBlock, this]

/-- Put. -/
theorem TabM.put (h : TabM w b D es clock L) {p : Int × Int} {c : C4} (hs : setB p.1 p.2 c = true) (hc : c ≠ z4) :
    ∃ w', (Instr.mapUpdate 70 (.map (some b)) (plcV p) (c4V c)).run Tryz.prog w = .ok () w' ∧ TabMap w' b (setT D p.1 p.2 c) ∧ w.grownBy w' (some b) := by
  have hok := h.ok.set hs
  have hs' := hs
  unfold setB at hs'
  simp only [Bool.and_eq_true] at hs'
  have hw : Wf2 p := wf_place hs'.1.1 hs'.1.2
  obtain ⟨i, hi⟩ := key_plc hw
  have hb' : ∃ o, w.heap[b]? = some o := ⟨_, h.blk⟩
  rcases h.find hw w with ⟨h1, h2, h3⟩ | ⟨j, e0, A, B, h1, hj, h3, h4, h5, h6, h7⟩
  · have hsz : es.size < maxLen := by have := h.len; unfold maxLen; omega
    refine ⟨setBlock w b (.map (es.push ⟨plcV p, c4V c, clock⟩) (clock + 1)), ?_, ⟨_, _, L ++ [(p, c)], block_setBlock hb', ?_, ?_, ?_, ?_, ?_, hok⟩, grown_setBlock w b hb' _⟩
    · simp [Instr.mapUpdate, run_underlying Tryz.underlying70, MapKept.run_getObj_map h.blk, keyedPlc.check w false hi, h1, MapKept.run_setObj_map _ h.blk, Result.andThen, setBlock]
    · intro x hx
      rw [Array.toList_push] at hx
      rcases List.mem_append.1 hx with hx | hx
      · have := h.born x hx; omega
      · rw [List.mem_singleton.1 hx]; exact Nat.lt_succ_self _
    · rw [Array.toList_push, List.map_append]
      refine List.nodup_append.2 ⟨h.once, by simp, ?_⟩
      intro x hx y hy
      obtain ⟨z, hz, rfl⟩ := List.mem_map.1 hx
      simp at hy
      have := h.born z hz
      omega
    · rw [Array.toList_push, List.map_append, List.map_append, h.l]
      rfl
    · refine List.pairwise_append.2 ⟨h.ap, by simp, fun x hx y hy => ?_⟩
      rw [List.mem_singleton.1 hy]
      exact h3 x hx
    · intro x
      rw [List.mem_append, List.mem_singleton, h.mem]
      constructor
      · rintro (⟨e1, e2⟩ | rfl)
        · refine ⟨?_, e2⟩
          rw [setT_other _ _ (fun q => h3 x ((h.mem x).2 ⟨e1, e2⟩) (by ext <;> simp [q.1, q.2]))]
          exact e1
        · exact ⟨setT_same _ _ _ _, hc⟩
      · rintro ⟨e1, e2⟩
        by_cases q : x.1.1 = p.1 ∧ x.1.2 = p.2
        · right
          rw [q.1, q.2, setT_same] at e1
          obtain ⟨⟨x1, x2⟩, x3⟩ := x
          obtain ⟨p1, p2⟩ := p
          simp only at q e1
          rw [q.1, q.2, e1]
        · left
          rw [setT_other _ _ q] at e1
          exact ⟨e1, e2⟩
  · have hjl : j < es.toList.length := by
      rcases Nat.lt_or_ge j es.toList.length with q | q
      · exact q
      · rw [List.getElem?_eq_none q] at hj; cases hj
    have hj2 : es[j]? = some e0 := by rw [← hj]; simp
    have hmod : (es.modify j fun e => { e with key := plcV p, val := c4V c }).toList = es.toList.set j { e0 with key := plcV p, val := c4V c } := by
      apply List.ext_getElem?
      intro i
      by_cases q : j = i
      · subst q
        rw [List.getElem?_set_self hjl]
        simp [hj2]
      · rw [List.getElem?_set_ne q]
        simp [q]
    have hst := keyedPlc.stays w hi
    refine ⟨setBlock w b (.map (es.modify j fun e => { e with key := plcV p, val := c4V c }) clock), ?_, ⟨_, _, A ++ (p, c) :: B, block_setBlock hb', ?_, ?_, ?_, ?_, ?_, hok⟩, grown_setBlock w b hb' _⟩
    · simp [Instr.mapUpdate, run_underlying Tryz.underlying70, MapKept.run_getObj_map h.blk, keyedPlc.check w false hi, h1, hj2, h3, hst, MapKept.run_setObj_map _ h.blk, Result.andThen, setBlock]
    · intro x hx
      rw [hmod] at hx
      rcases List.mem_or_eq_of_mem_set hx with hx | rfl
      · exact h.born x hx
      · exact h.born e0 (List.mem_of_getElem? hj)
    · rw [hmod]
      have : (es.toList.set j { e0 with key := plcV p, val := c4V c }).map (·.born) = es.toList.map (·.born) := by
        apply List.ext_getElem?
        intro i
        by_cases q : j = i
        · subst q
          rw [List.getElem?_map, List.getElem?_set_self hjl, List.getElem?_map, hj]
          rfl
        · rw [List.getElem?_map, List.getElem?_set_ne q, List.getElem?_map]
      rw [this]; exact h.once
    · rw [hmod, List.map_set, h.l, h6]
      subst h7
      simp [encKV]
    · have hap := h.ap
      rw [h6] at hap
      obtain ⟨a1, a2, a3⟩ := List.pairwise_append.1 hap
      obtain ⟨a4, a5⟩ := List.pairwise_cons.1 a2
      exact List.pairwise_append.2 ⟨a1, List.pairwise_cons.2 ⟨fun y hy => a4 y hy, a5⟩, fun x hx y hy => by
        rcases List.mem_cons.1 hy with rfl | hy
        · exact a3 x hx (p, D p.1 p.2) List.mem_cons_self
        · exact a3 x hx y (List.mem_cons_of_mem _ hy)⟩
    · have hap := h.ap
      rw [h6] at hap
      obtain ⟨a1, a2, a3⟩ := List.pairwise_append.1 hap
      obtain ⟨a4, a5⟩ := List.pairwise_cons.1 a2
      have hmo : ∀ x, x ∈ A ∨ x ∈ B → x.1 ≠ p ∧ D x.1.1 x.1.2 = x.2 ∧ x.2 ≠ z4 := by
        intro x hx
        have hm : x ∈ L := by
          rw [h6]
          rcases hx with hx | hx
          · exact List.mem_append_left _ hx
          · exact List.mem_append_right _ (List.mem_cons_of_mem _ hx)
        refine ⟨?_, (h.mem x).1 hm⟩
        rcases hx with hx | hx
        · exact a3 x hx _ (List.mem_cons_self ..)
        · exact fun e => a4 x hx e.symm
      intro x
      rw [List.mem_append, List.mem_cons]
      constructor
      · intro hx
        have hx' : x = (p, c) ∨ (x ∈ A ∨ x ∈ B) := by
          rcases hx with hx | hx | hx
          · exact .inr (.inl hx)
          · exact .inl hx
          · exact .inr (.inr hx)
        rcases hx' with rfl | hx
        · exact ⟨setT_same _ _ _ _, hc⟩
        · obtain ⟨n1, n2, n3⟩ := hmo x hx
          refine ⟨?_, n3⟩
          rw [setT_other _ _ (fun q => n1 (by ext <;> simp [q.1, q.2]))]
          exact n2
      · rintro ⟨e1, e2⟩
        by_cases q : x.1.1 = p.1 ∧ x.1.2 = p.2
        · right; left
          rw [q.1, q.2, setT_same] at e1
          obtain ⟨⟨x1, x2⟩, x3⟩ := x
          obtain ⟨p1, p2⟩ := p
          simp only at q e1
          rw [q.1, q.2, e1]
        · rw [setT_other _ _ q] at e1
          have hm := (h.mem x).2 ⟨e1, e2⟩
          rw [h6, List.mem_append, List.mem_cons] at hm
          rcases hm with hm | hm | hm
          · exact .inl hm
          · exact absurd (by rw [hm]; exact ⟨rfl, rfl⟩) q
          · exact .inr (.inr hm)

/-- Deleted; who goes through it meets the same entries as ahead, but that one. -/
theorem TabM.del (h : TabM w b D es clock L) {p : Int × Int} (hw : Wf2 p) (ty : TypeId) :
    ∃ es' L', (Builtin.delete_ #[70, 76] ty #[.map (some b), plcV p]).run Tryz.prog w = .ok (.tuple #[]) (setBlock w b (.map es' clock)) ∧ TabM (setBlock w b (.map es' clock)) b (setT D p.1 p.2 z4) es' clock L' ∧ w.grownBy (setBlock w b (.map es' clock)) (some b) ∧
      (∀ x ∈ es'.toList, x ∈ es.toList ∧ x.key ≠ plcV p) ∧ es'.toList.Sublist es.toList := by
  obtain ⟨i, hi⟩ := key_plc hw
  have hb' : ∃ o, w.heap[b]? = some o := ⟨_, h.blk⟩
  have hok : OkT (setT D p.1 p.2 z4) := by
    intro n k hz
    unfold setT at hz ⊢
    split
    · rename_i e; rw [if_pos e] at hz; exact absurd rfl hz
    · rename_i e; rw [if_neg e] at hz; exact h.ok n k hz
  rcases h.find hw w with ⟨h1, h2, h3⟩ | ⟨j, e0, A, B, h1, hj, h3, h4, h5, h6, h7⟩
  · refine ⟨es, L, ?_, ?_, grown_setBlock w b hb' _, fun x hx => ⟨hx, ?_⟩, List.Sublist.refl _⟩
    · simp [Builtin.delete_, run_underlying Tryz.underlying70, MapKept.run_getObj_map h.blk, keyedPlc.check w _ hi, h1, MapKept.run_setObj_map _ h.blk, Result.andThen, setBlock]
    · have : setT D p.1 p.2 z4 = D := by rw [← h2]; exact setT_id D p.1 p.2
      rw [this]
      exact ⟨block_setBlock hb', h.born, h.once, h.l, h.ap, h.mem, h.ok⟩
    · obtain ⟨y, hy, e1, _⟩ := h.at_ hx
      rw [e1]
      exact fun e => h3 y hy (plcV_inj e)
  · have hjl : j < es.toList.length := by
      rcases Nat.lt_or_ge j es.toList.length with q | q
      · exact q
      · rw [List.getElem?_eq_none q] at hj; cases hj
    have hjs : j < es.size := by simpa using hjl
    have hsub : (es.eraseIdxIfInBounds j).toList = es.toList.eraseIdx j := by
      unfold Array.eraseIdxIfInBounds
      rw [dif_pos hjs]
      simp
    have hl' : (es.eraseIdxIfInBounds j).toList.map (fun e => (e.key, e.val)) = (A ++ B).map encKV := by
      rw [hsub, Go.ChangeMaps.map_eraseIdx, h.l, h6]
      subst h7
      simp [List.eraseIdx_append_of_length_le]
    have hap := h.ap
    rw [h6] at hap
    obtain ⟨a1, a2, a3⟩ := List.pairwise_append.1 hap
    obtain ⟨a4, a5⟩ := List.pairwise_cons.1 a2
    have hmo : ∀ x, x ∈ A ∨ x ∈ B → x.1 ≠ p ∧ D x.1.1 x.1.2 = x.2 ∧ x.2 ≠ z4 := by
      intro x hx
      have hm : x ∈ L := by
        rw [h6]
        rcases hx with hx | hx
        · exact List.mem_append_left _ hx
        · exact List.mem_append_right _ (List.mem_cons_of_mem _ hx)
      refine ⟨?_, (h.mem x).1 hm⟩
      rcases hx with hx | hx
      · exact a3 x hx _ (List.mem_cons_self ..)
      · exact fun e => a4 x hx e.symm
    refine ⟨es.eraseIdxIfInBounds j, A ++ B, ?_, ⟨block_setBlock hb', ?_, ?_, hl', ?_, ?_, hok⟩, grown_setBlock w b hb' _, fun x hx => ⟨?_, ?_⟩, ?_⟩
    · simp [Builtin.delete_, run_underlying Tryz.underlying70, MapKept.run_getObj_map h.blk, keyedPlc.check w _ hi, h1, MapKept.run_setObj_map _ h.blk, Result.andThen, setBlock]
    · intro x hx
      rw [hsub] at hx
      exact h.born x ((List.eraseIdx_sublist _ _).subset hx)
    · rw [hsub]
      exact h.once.sublist ((List.eraseIdx_sublist _ _).map _)
    · exact List.pairwise_append.2 ⟨a1, a5, fun x hx y hy => a3 x hx y (List.mem_cons_of_mem _ hy)⟩
    · intro x
      rw [List.mem_append]
      constructor
      · intro hx
        obtain ⟨n1, n2, n3⟩ := hmo x hx
        refine ⟨?_, n3⟩
        rw [setT_other _ _ (fun q => n1 (by ext <;> simp [q.1, q.2]))]
        exact n2
      · rintro ⟨e1, e2⟩
        by_cases q : x.1.1 = p.1 ∧ x.1.2 = p.2
        · rw [q.1, q.2, setT_same] at e1
          exact absurd e1.symm e2
        · rw [setT_other _ _ q] at e1
          have hm := (h.mem x).2 ⟨e1, e2⟩
          rw [h6, List.mem_append, List.mem_cons] at hm
          rcases hm with hm | hm | hm
          · exact .inl hm
          · exact absurd (by rw [hm]; exact ⟨rfl, rfl⟩) q
          · exact .inr hm
    · rw [hsub] at hx
      exact (List.eraseIdx_sublist _ _).subset hx
    · have : (x.key, x.val) ∈ (A ++ B).map encKV := by rw [← hl']; exact List.mem_map.2 ⟨x, hx, rfl⟩
      obtain ⟨y, hy, e⟩ := List.mem_map.1 this
      unfold encKV at e
      injection e with e1 e2
      rw [← e1]
      exact fun q => (hmo y (List.mem_append.1 hy)).1 (plcV_inj q)
    · rw [hsub]
      exact List.eraseIdx_sublist _ _

end

end Go.Proofs.YtfhlpbjdcdagjaaGreatDoor
