/- Layer 3, gauss: the last sign of a text, as strings.LastIndexAny finds it: plain facts. -/
import Derived.Test.YtgkhmhbmdmjacaaDoorGauS
import Derived.Lib.TrimUEq
namespace Go.Proofs.YtgkhmhbmdmjacaaDoor
open Go.RowKit Go.Lib
set_option linter.unusedVariables false

theorem decN_hi (n b0 b1 b2 b3 : Nat) (h : 128 ≤ b0) : 128 ≤ (decodeN n b0 b1 b2 b3).1 ∧ (decodeN n b0 b1 b2 b3).2 ≤ 4 ∧ (1 < (decodeN n b0 b1 b2 b3).2 → 128 ≤ b1) ∧ (2 < (decodeN n b0 b1 b2 b3).2 → 128 ≤ b2) ∧ (3 < (decodeN n b0 b1 b2 b3).2 → 128 ≤ b3) := by
  unfold decodeN
  repeat' split
  all_goals (refine ⟨?_, ?_, ?_, ?_, ?_⟩ <;> simp only <;> omega)

theorem decL_hi (l : List UInt8) (h : 128 ≤ (l.getD 0 0).toNat) : 128 ≤ (decodeL l).1 ∧ ∀ j, j < (decodeL l).2 → 128 ≤ (l.getD j 0).toNat := by
  rw [decodeL_N]
  obtain ⟨h1, h2, h3, h4, h5⟩ := decN_hi l.length (l.getD 0 0).toNat (l.getD 1 0).toNat (l.getD 2 0).toNat (l.getD 3 0).toNat h
  refine ⟨h1, fun j hj => ?_⟩
  rcases j with _ | _ | _ | _ | j
  · exact h
  · exact h3 (by omega)
  · exact h4 (by omega)
  · exact h5 (by omega)
  · omega

/-- The last rune: a byte of its own, or none of its bytes is a sign. -/
theorem decLast_cases (l : List UInt8) (hl : 0 < l.length) :
    ((l.getD (l.length - 1) 0).toNat < 128 ∧ decodeLastL l = ((l.getD (l.length - 1) 0).toNat, 1)) ∨
    (128 ≤ (decodeLastL l).1 ∧ (decodeLastL l).1 ≤ 1114111 ∧ 1 ≤ (decodeLastL l).2 ∧ (decodeLastL l).2 ≤ l.length ∧ ∀ j, l.length - (decodeLastL l).2 ≤ j → j < l.length → ¬ Sgn (l.getD j 0)) := by
  have hw := decodeLastL_width l hl
  have hr := decodeLastL_rune l
  have hne : l ≠ [] := List.length_pos_iff.1 hl
  by_cases h : (l.getD (l.length - 1) 0).toNat < 128
  · refine .inl ⟨h, ?_⟩
    unfold decodeLastL
    rw [if_neg hne, if_pos h]
  · have hb : 128 ≤ ((l.drop (lastStart l)).getD 0 0).toNat ∨ ¬ lastStart l + (decodeL (l.drop (lastStart l))).2 = l.length := by
      by_cases hs : 128 ≤ ((l.drop (lastStart l)).getD 0 0).toNat
      · exact .inl hs
      · refine .inr fun e => h ?_
        have h1 : (decodeL (l.drop (lastStart l))).2 = 1 := by
          rw [decodeL_N]
          unfold decodeN
          rw [if_pos (by omega)]
        have h2 : l.length - 1 = lastStart l + 0 := by omega
        rw [h2, ← getD_dropU]
        omega
    refine .inr ⟨?_, hr, hw.1, hw.2, ?_⟩
    all_goals unfold decodeLastL
    all_goals rw [if_neg hne, if_neg h]
    all_goals simp only
    · split
      · rename_i e
        rcases hb with hb | hb
        · exact (decL_hi _ hb).1
        · exact absurd e hb
      · show 128 ≤ Utf8.runeError; decide
    · split
      · rename_i e
        intro j h1 h2
        rcases hb with hb | hb
        · have h3 := (decL_hi _ hb).2 (j - lastStart l) (by omega)
          rw [getD_dropU] at h3
          have h4 : lastStart l + (j - lastStart l) = j := by omega
          rw [h4] at h3
          unfold Sgn
          omega
        · exact absurd e hb
      · intro j h1 h2
        have h3 : j = l.length - 1 := by omega
        rw [h3]
        unfold Sgn
        omega

/-- The place of the last sign, or -1. -/
def LastIs (l : List UInt8) (r : Int) : Prop := (NoSgn l ∧ r = -1) ∨ ∃ k : Nat, LastAt l k ∧ r = k

theorem getD_take {l : List UInt8} {i j : Nat} (h : j < i) : (l.take i).getD j 0 = l.getD j 0 := by
  simp [List.getD_eq_getElem?_getD, h]

end Go.Proofs.YtgkhmhbmdmjacaaDoor
