/- Decimal digits, there and back: plain facts. -/
import Derived.Test.YtfohdoahddommaaDoorBase
import Derived.Lib.ItoaMem
import Derived.Lib.ItoaLen
import Derived.Lib.AtoiAllCases
namespace Go.Proofs.YtfohdoahddommaaDoor
open Go.RowKit Go.Lib
set_option linter.unusedVariables false
set_option maxRecDepth 100000

/-- A decimal digit; a sign. -/
def Dig (c : UInt8) : Prop := 48 ≤ c.toNat ∧ c.toNat ≤ 57
def Sgn (c : UInt8) : Prop := c.toNat = 43 ∨ c.toNat = 45
instance (c : UInt8) : Decidable (Sgn c) := by unfold Sgn; infer_instance

theorem Dig.not_sgn {c : UInt8} (h : Dig c) : ¬ Sgn c := by unfold Dig at h; unfold Sgn; omega
theorem digit_dig {u : Nat} (h : u < 10) : (UInt8.ofNat (48 + u)).toNat = 48 + u := by
  rw [UInt8.toNat_ofNat']; omega

theorem decDigits_dig : ∀ (u : Nat), ∀ c ∈ decDigits u, Dig c := by
  intro u
  induction u using Nat.strongRecOn with
  | ind u ih =>
    intro c hc
    rw [decDigits] at hc
    split at hc
    · rename_i h
      obtain rfl := List.mem_singleton.1 hc
      unfold Dig; rw [digit_dig h]; omega
    · rename_i h
      rcases List.mem_append.1 hc with hc | hc
      · exact ih (u / 10) (by omega) c hc
      · obtain rfl := List.mem_singleton.1 hc
        unfold Dig; rw [digit_dig (by omega)]; omega

theorem decDigits_ne (u : Nat) : decDigits u ≠ [] := by
  intro h
  have h1 := decDigits_length u
  rw [h] at h1
  have := nDigits_pos u
  simp at h1; omega

theorem parse_snoc (c : UInt8) : ∀ (l : List UInt8) (acc : Nat), parseUint10 acc (l ++ [c]) = match parseUint10 acc l with | .ok v => parseUint10 v [c] | e => e
  | [], acc => by simp [parseUint10]
  | b :: l, acc => by
    have ih := fun a => parse_snoc c l a
    rw [List.cons_append]
    conv => lhs; rw [parseUint10]
    conv => rhs; rw [parseUint10]
    split
    · split
      · rfl
      · split
        · rfl
        · exact ih _
    · rfl

theorem parse_digits : ∀ (u : Nat), u < 1000000000000000000 → parseUint10 0 (decDigits u) = .ok u := by
  intro u
  induction u using Nat.strongRecOn with
  | ind u ih =>
    intro hu
    rw [decDigits]
    split
    · rename_i h
      have e := digit_dig h
      simp only [parseUint10, e]
      rw [if_pos (by omega), if_neg (by omega), if_neg (by omega)]
      congr 1; omega
    · rename_i h
      have e := digit_dig (u := u % 10) (by omega)
      rw [parse_snoc, ih (u / 10) (by omega) (by omega)]
      simp only [parseUint10, e]
      rw [if_pos (by omega), if_neg (by omega), if_neg (by omega)]
      congr 1; omega

theorem mag_digits (u : Nat) (hu : u < 1000000000000000000) : parseMag (decDigits u) = .ok u := by
  unfold parseMag; rw [if_neg (decDigits_ne u), parse_digits u hu]

/-- The sign of an imaginary part. -/
def sgn (n : Int) : UInt8 := if n < 0 then 45 else 43
theorem sgn_sgn (n : Int) : Sgn (sgn n) := by
  unfold sgn Sgn; split
  · exact .inr rfl
  · exact .inl rfl

theorem atoi_itoa (n : Int) (h0 : -1000000000000 ≤ n) (h1 : n ≤ 1000000000000) : atoiAll (itoa n) = .ok n := by
  unfold itoa
  split
  · rename_i h
    rw [atoiAll_minus, mag_digits _ (by omega)]
    unfold Lib.signed
    simp only
    rw [if_neg (by omega)]
    congr 1; omega
  · rename_i h
    have hne := decDigits_ne n.toNat
    have hd := decDigits_dig n.toNat
    have hm := mag_digits n.toNat (by omega)
    cases hc : decDigits n.toNat with
    | nil => exact absurd hc hne
    | cons c r =>
      rw [hc] at hd hm
      have := hd c (by simp)
      unfold Dig at this
      rw [atoiAll_plain c r (by omega) (by omega), hm]
      unfold signless
      simp only
      rw [if_neg (by omega)]
      congr 1; omega

theorem atoi_sgn (n : Int) (h0 : -1000000000000 ≤ n) (h1 : n ≤ 1000000000000) : atoiAll (sgn n :: decDigits n.natAbs) = .ok n := by
  unfold sgn
  split
  · rename_i h
    rw [atoiAll_minus, mag_digits _ (by omega)]
    unfold Lib.signed
    simp only
    rw [if_neg (by omega)]
    congr 1; omega
  · rename_i h
    rw [atoiAll_plus, mag_digits _ (by omega)]
    unfold signless
    simp only
    rw [if_neg (by omega)]
    congr 1; omega

def Small (n : Int) : Prop := -1000000000000 ≤ n ∧ n ≤ 1000000000000

theorem itoa_len (n : Int) (h : Small n) : (itoa n).length ≤ 21 := itoa_length_le n (by have := h.1; omega) (by have := h.2; omega)

end Go.Proofs.YtfohdoahddommaaDoor
