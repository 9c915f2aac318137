/- Layer 4, code: programs, their words and bytes: plain facts. -/
import Derived.Test.YtfohdoahddommaaDoorDec
import Derived.Test.YtfohdoahddommaaDoorNum
import Derived.Lib.Join
import Derived.Lib.IndexMore
import Derived.Lib.CutLaws
namespace Go.Proofs.YtfohdoahddommaaDoor
open Go.RowKit Go.Lib
set_option linter.unusedVariables false
set_option maxRecDepth 100000

/-- The operations' names. -/
def opNames : List (List UInt8) :=
  [[72, 65, 76, 84], [80, 85, 83, 72], [80, 85, 83, 72, 73], [73, 78], [76, 79, 65, 68], [83, 84, 79, 82, 69], [65, 68, 68], [83, 85, 66], [77, 85, 76], [67, 79, 78, 74], [84, 85, 82, 78], [68, 85, 80], [83, 87, 65, 80], [68, 82, 79, 80], [69, 77, 73, 84], [74, 90], [74, 77, 80], [76, 84]]

def nameL (o : Int) : List UInt8 := opNames.getD o.toNat []

/-- From where to where an operation's number may be. -/
def loI (o : Int) : Int := if o = 1 ∨ o = 2 then -524288 else if o = 15 ∨ o = 16 then 1 else 0
def hiI (o : Int) : Int := if o = 1 ∨ o = 2 then 524287 else if o = 4 ∨ o = 5 then 1 else if o = 15 ∨ o = 16 then 24 else 0

/-- Has an operation a number in its words? -/
def numdI (o : Int) : Bool := decide (0 < hiI o)

/-- May an instruction be? -/
def rightI (x : Int × Int) : Bool := decide (0 ≤ x.1) && decide (x.1 ≤ 17) && decide (loI x.1 ≤ x.2) && decide (x.2 ≤ hiI x.1)

def fitsL (l : List (Int × Int)) : Bool := decide (l.length ≤ 24) && l.all rightI

theorem numdI_iff (o : Int) : numdI o = true ↔ o = 1 ∨ o = 2 ∨ o = 4 ∨ o = 5 ∨ o = 15 ∨ o = 16 := by
  unfold numdI hiI
  rw [decide_eq_true_eq]
  split
  · omega
  · split
    · omega
    · split <;> omega

theorem rightI_bounds {x : Int × Int} (h : rightI x = true) : 0 ≤ x.1 ∧ x.1 ≤ 17 ∧ -524288 ≤ x.2 ∧ x.2 ≤ 524287 := by
  unfold rightI at h
  simp only [Bool.and_eq_true, decide_eq_true_eq] at h
  have h1 : -524288 ≤ loI x.1 := by unfold loI; split <;> (try split) <;> omega
  have h2 : hiI x.1 ≤ 524287 := by unfold hiI; split <;> (try split) <;> (try split) <;> omega
  omega

theorem rightI_zero {x : Int × Int} (h : rightI x = true) (hn : numdI x.1 = false) : x.2 = 0 := by
  have hh : ¬ (numdI x.1 = true) := by rw [hn]; simp
  rw [numdI_iff] at hh
  unfold rightI at h
  simp only [Bool.and_eq_true, decide_eq_true_eq] at h
  have h1 : loI x.1 = 0 := by unfold loI; rw [if_neg (by omega), if_neg (by omega)]
  have h2 : hiI x.1 = 0 := by unfold hiI; rw [if_neg (by omega), if_neg (by omega), if_neg (by omega)]
  omega

theorem rightI_small {x : Int × Int} (h : rightI x = true) : Small x.2 := by
  have := rightI_bounds h
  exact ⟨by omega, by omega⟩

/-- An instruction's words. -/
def wordI (x : Int × Int) : List UInt8 := nameL x.1 ++ if numdI x.1 then 32 :: itoa x.2 else []

/-- A program's words. -/
def textL (l : List (Int × Int)) : List UInt8 := join (l.map wordI) [59, 32]

/-- What the program's Text hands back. -/
def outL (l : List (Int × Int)) : List UInt8 := if fitsL l then textL l else []

theorem textL_nil : textL [] = [] := rfl

theorem textL_one (x : Int × Int) : textL [x] = wordI x := join_one _ _

theorem textL_cons (x : Int × Int) (l : List (Int × Int)) (h : l ≠ []) : textL (x :: l) = wordI x ++ (59 :: 32 :: textL l) := by
  cases l with
  | nil => exact absurd rfl h
  | cons y r =>
    unfold textL
    rw [List.map_cons, join_cons, List.map_cons, join_cons]
    simp [joinTail]

/-- A byte that a word may have: no blank, no semicolon. -/
def Wb (c : UInt8) : Prop := c ≠ 32 ∧ c ≠ 59

instance (c : UInt8) : Decidable (Wb c) := by unfold Wb; infer_instance

theorem names_wb : ∀ n ∈ opNames, n ≠ [] ∧ n.length ≤ 5 ∧ ∀ c ∈ n, Wb c := by decide

theorem nameL_mem {o : Int} (h0 : 0 ≤ o) (h1 : o ≤ 17) : nameL o ∈ opNames := by
  unfold nameL
  have : o.toNat < opNames.length := by simp [opNames]; omega
  rw [List.getD_eq_getElem?_getD, List.getElem?_eq_getElem this]
  exact List.getElem_mem this

theorem nameL_wb {o : Int} (h0 : 0 ≤ o) (h1 : o ≤ 17) : ∀ c ∈ nameL o, Wb c := (names_wb _ (nameL_mem h0 h1)).2.2

theorem nameL_ne {o : Int} (h0 : 0 ≤ o) (h1 : o ≤ 17) : nameL o ≠ [] := (names_wb _ (nameL_mem h0 h1)).1

theorem nameL_len {o : Int} (h0 : 0 ≤ o) (h1 : o ≤ 17) : (nameL o).length ≤ 5 := (names_wb _ (nameL_mem h0 h1)).2.1

theorem itoa_wb (n : Int) : ∀ c ∈ itoa n, Wb c := by
  intro c hc
  unfold itoa at hc
  have key : ∀ u, ∀ c ∈ decDigits u, Wb c := fun u c hc => by
    have h := decDigits_dig u c hc
    unfold Dig at h
    refine ⟨?_, ?_⟩
    · rintro rfl; simp at h
    · rintro rfl; simp at h
  split at hc
  · rcases List.mem_cons.1 hc with rfl | hc
    · decide
    · exact key _ c hc
  · exact key _ c hc

theorem wordI_ne {x : Int × Int} (h : rightI x = true) : wordI x ≠ [] := by
  have hb := rightI_bounds h
  have := nameL_ne hb.1 hb.2.1
  unfold wordI
  intro e
  exact this (List.append_eq_nil_iff.1 e).1

theorem wordI_len {x : Int × Int} (h : rightI x = true) : (wordI x).length ≤ 27 := by
  have hb := rightI_bounds h
  have h1 := nameL_len hb.1 hb.2.1
  have h2 := itoa_len x.2 (rightI_small h)
  unfold wordI
  split <;> simp <;> omega

theorem textL_len : ∀ (l : List (Int × Int)), l.all rightI = true → (textL l).length ≤ 29 * l.length
  | [], _ => by simp [textL_nil]
  | [x], h => by
    rw [textL_one]
    have := wordI_len (x := x) (by simpa using h)
    simp; omega
  | x :: y :: r, h => by
    rw [textL_cons x (y :: r) (by simp)]
    rw [List.all_cons, Bool.and_eq_true] at h
    have h1 := wordI_len h.1
    have h2 := textL_len (y :: r) h.2
    simp only [List.length_append, List.length_cons] at h2 ⊢
    omega

theorem textL_ne {x : Int × Int} {l : List (Int × Int)} (h : rightI x = true) : textL (x :: l) ≠ [] := by
  have := wordI_ne h
  intro e
  cases l with
  | nil => rw [textL_one] at e; exact this e
  | cons y r => rw [textL_cons _ _ (by simp)] at e; simp at e

theorem fitsL_iff (l : List (Int × Int)) : fitsL l = true ↔ l.length ≤ 24 ∧ l.all rightI = true := by
  unfold fitsL; rw [Bool.and_eq_true, decide_eq_true_eq]

theorem textL_out {l : List (Int × Int)} (h : fitsL l = true) : outL l = textL l := if_pos h

theorem textL_out_not {l : List (Int × Int)} (h : fitsL l = false) : outL l = [] := by unfold outL; rw [h]; rfl

theorem outL_len (l : List (Int × Int)) : (outL l).length ≤ 696 := by
  cases h : fitsL l with
  | true =>
    rw [textL_out h]
    rw [fitsL_iff] at h
    have := textL_len l h.2
    omega
  | false => rw [textL_out_not h]; simp

/-- The operation of a name. -/
def opOf (n : List UInt8) : Int := match opNames.findIdx? (· == n) with
  | some i => i
  | none => -1

theorem opOf_name : ∀ o : Int, 0 ≤ o → o ≤ 17 → opOf (nameL o) = o := by
  have key : ∀ k : Fin 18, opOf (nameL ((k.val : Nat) : Int)) = ((k.val : Nat) : Int) := by decide
  intro o h0 h1
  have := key ⟨o.toNat, by omega⟩
  rwa [show (((⟨o.toNat, by omega⟩ : Fin 18).val : Nat) : Int) = o by show ((o.toNat : Nat) : Int) = o; omega] at this

/-- One word: what stands ahead of the first blank, without a semicolon at its end; and what stands behind. -/
def wordL (s : List UInt8) : List UInt8 := trimSuffix (cut s [32]).1 [59]
def restL (s : List UInt8) : List UInt8 := (cut s [32]).2.1

end Go.Proofs.YtfohdoahddommaaDoor
