/- Layer 3, gauss: texts of values: plain facts. -/
import Derived.Test.YtgkhmhbmdmjacaaDoorGauA
import Derived.Lib.ItoaMem
import Derived.Lib.ItoaLen
import Derived.Lib.AtoiAllCases
namespace Go.Proofs.YtgkhmhbmdmjacaaDoor
open Go.RowKit Go.Lib
set_option linter.unusedVariables false

/-- A decimal digit; a sign. -/
def Dig (c : UInt8) : Prop := 48 ≤ c.toNat ∧ c.toNat ≤ 57
def Sgn (c : UInt8) : Prop := c.toNat = 43 ∨ c.toNat = 45
instance (c : UInt8) : Decidable (Sgn c) := by unfold Sgn; infer_instance

theorem Dig.not_sgn {c : UInt8} (h : Dig c) : ¬ Sgn c := by unfold Dig at h; unfold Sgn; omega
theorem digit_dig {u : Nat} (h : u < 10) : (UInt8.ofNat (48 + u)).toNat = 48 + u := by
  rw [UInt8.toNat_ofNat']; omega

theorem decDigits_dig : ∀ (u : Nat), ∀ c ∈ decDigits u, Dig c := by
  intro u
  induction u using Nat.strongRecOn with
  | ind u ih =>
    intro c hc
    rw [decDigits] at hc
    split at hc
    · rename_i h
      obtain rfl := List.mem_singleton.1 hc
      unfold Dig; rw [digit_dig h]; omega
    · rename_i h
      rcases List.mem_append.1 hc with hc | hc
      · exact ih (u / 10) (by omega) c hc
      · obtain rfl := List.mem_singleton.1 hc
        unfold Dig; rw [digit_dig (by omega)]; omega

theorem decDigits_ne (u : Nat) : decDigits u ≠ [] := by
  intro h
  have h1 := decDigits_length u
  rw [h] at h1
  have := nDigits_pos u
  simp at h1; omega

theorem parse_snoc (c : UInt8) : ∀ (l : List UInt8) (acc : Nat), parseUint10 acc (l ++ [c]) = match parseUint10 acc l with | .ok v => parseUint10 v [c] | e => e
  | [], acc => by simp [parseUint10]
  | b :: l, acc => by
    have ih := fun a => parse_snoc c l a
    rw [List.cons_append]
    conv => lhs; rw [parseUint10]
    conv => rhs; rw [parseUint10]
    split
    · split
      · rfl
      · split
        · rfl
        · exact ih _
    · rfl

theorem parse_digits : ∀ (u : Nat), u < 1000000000000000000 → parseUint10 0 (decDigits u) = .ok u := by
  intro u
  induction u using Nat.strongRecOn with
  | ind u ih =>
    intro hu
    rw [decDigits]
    split
    · rename_i h
      have e := digit_dig h
      simp only [parseUint10, e]
      rw [if_pos (by omega), if_neg (by omega), if_neg (by omega)]
      congr 1; omega
    · rename_i h
      have e := digit_dig (u := u % 10) (by omega)
      rw [parse_snoc, ih (u / 10) (by omega) (by omega)]
      simp only [parseUint10, e]
      rw [if_pos (by omega), if_neg (by omega), if_neg (by omega)]
      congr 1; omega

theorem mag_digits (u : Nat) (hu : u < 1000000000000000000) : parseMag (decDigits u) = .ok u := by
  unfold parseMag; rw [if_neg (decDigits_ne u), parse_digits u hu]

/-- The sign of an imaginary part. -/
def sgn (n : Int) : UInt8 := if n < 0 then 45 else 43
theorem sgn_sgn (n : Int) : Sgn (sgn n) := by
  unfold sgn Sgn; split
  · exact .inr rfl
  · exact .inl rfl

theorem atoi_itoa (n : Int) (h0 : -1000000000000 ≤ n) (h1 : n ≤ 1000000000000) : atoiAll (itoa n) = .ok n := by
  unfold itoa
  split
  · rename_i h
    rw [atoiAll_minus, mag_digits _ (by omega)]
    unfold Lib.signed
    simp only
    rw [if_neg (by omega)]
    congr 1; omega
  · rename_i h
    have hne := decDigits_ne n.toNat
    have hd := decDigits_dig n.toNat
    have hm := mag_digits n.toNat (by omega)
    cases hc : decDigits n.toNat with
    | nil => exact absurd hc hne
    | cons c r =>
      rw [hc] at hd hm
      have := hd c (by simp)
      unfold Dig at this
      rw [atoiAll_plain c r (by omega) (by omega), hm]
      unfold signless
      simp only
      rw [if_neg (by omega)]
      congr 1; omega

theorem atoi_sgn (n : Int) (h0 : -1000000000000 ≤ n) (h1 : n ≤ 1000000000000) : atoiAll (sgn n :: decDigits n.natAbs) = .ok n := by
  unfold sgn
  split
  · rename_i h
    rw [atoiAll_minus, mag_digits _ (by omega)]
    unfold Lib.signed
    simp only
    rw [if_neg (by omega)]
    congr 1; omega
  · rename_i h
    rw [atoiAll_plus, mag_digits _ (by omega)]
    unfold signless
    simp only
    rw [if_neg (by omega)]
    congr 1; omega

/-- The text of a value with these parts. -/
def textOf (m n : Int) : List UInt8 := itoa m ++ (if n < 0 then [] else [43]) ++ itoa n ++ [105]
theorem textOf_eq (m n : Int) : textOf m n = itoa m ++ (sgn n :: decDigits n.natAbs) ++ [105] := by
  unfold textOf sgn
  split
  · rename_i h
    have : itoa n = 45 :: decDigits n.natAbs := by unfold itoa; rw [if_pos h]
    rw [this]; simp
  · rename_i h
    have : itoa n = decDigits n.natAbs := by unfold itoa; rw [if_neg h]; congr 1; omega
    rw [this]; simp

/-- The last sign of a text stands at k; there is none. -/
def LastAt (l : List UInt8) (k : Nat) : Prop := k < l.length ∧ Sgn (l.getD k 0) ∧ ∀ j, k < j → j < l.length → ¬ Sgn (l.getD j 0)
def NoSgn (l : List UInt8) : Prop := ∀ j, j < l.length → ¬ Sgn (l.getD j 0)

theorem LastAt.unique {l : List UInt8} {k k' : Nat} (h : LastAt l k) (h' : LastAt l k') : k = k' := by
  obtain ⟨a, b, c⟩ := h
  obtain ⟨a', b', c'⟩ := h'
  rcases Nat.lt_trichotomy k k' with x | x | x
  · exact absurd b' (c _ x a')
  · exact x
  · exact absurd b (c' _ x a)

theorem last_total (l : List UInt8) : NoSgn l ∨ ∃ k, LastAt l k := by
  have go : ∀ n, n ≤ l.length → (∀ j, l.length - n ≤ j → j < l.length → ¬ Sgn (l.getD j 0)) ∨ ∃ k, LastAt l k := by
    intro n
    induction n with
    | zero => intro _; exact .inl fun j h1 h2 => by omega
    | succ n ih =>
      intro hn
      rcases ih (by omega) with h | h
      · by_cases hs : Sgn (l.getD (l.length - (n + 1)) 0)
        · exact .inr ⟨l.length - (n + 1), by omega, hs, fun j h1 h2 => h j (by omega) h2⟩
        · refine .inl fun j h1 h2 => ?_
          by_cases e : j = l.length - (n + 1)
          · rw [e]; exact hs
          · exact h j (by omega) h2
      · exact .inr h
  rcases go l.length (Nat.le_refl _) with h | h
  · exact .inl fun j hj => h j (by omega) hj
  · exact .inr h

theorem getD_mem (l : List UInt8) (j : Nat) (h : j < l.length) : l.getD j 0 ∈ l := by
  rw [List.getD_eq_getElem?_getD, List.getElem?_eq_getElem h]; exact List.getElem_mem h

theorem last_mid (a d : List UInt8) (s : UInt8) (hs : Sgn s) (hd : ∀ c ∈ d, ¬ Sgn c) : LastAt (a ++ s :: d) a.length := by
  refine ⟨by simp, ?_, fun j h1 h2 => ?_⟩
  · rw [List.getD_eq_getElem?_getD, List.getElem?_append_right (Nat.le_refl _)]
    simpa using hs
  · rw [List.getD_eq_getElem?_getD, List.getElem?_append_right (by omega)]
    obtain ⟨i, hi⟩ : ∃ i, j - a.length = i + 1 := ⟨j - a.length - 1, by omega⟩
    rw [hi, List.getElem?_cons_succ]
    simp only [List.length_append, List.length_cons] at h2
    have hl : i < d.length := by omega
    rw [List.getElem?_eq_getElem hl]
    exact hd _ (List.getElem_mem hl)

theorem not_sgn_i : ¬ Sgn 105 := by decide

theorem last_text (m n : Int) : LastAt (textOf m n) (itoa m).length := by
  rw [textOf_eq, List.append_assoc, List.cons_append]
  refine last_mid _ _ _ (sgn_sgn n) fun c hc => ?_
  rcases List.mem_append.1 hc with h | h
  · exact (decDigits_dig _ c h).not_sgn
  · obtain rfl := List.mem_singleton.1 h
    exact not_sgn_i

theorem text_front (m n : Int) : (textOf m n).take (itoa m).length = itoa m := by
  rw [textOf_eq, List.append_assoc, List.take_append_of_le_length (Nat.le_refl _), List.take_of_length_le (Nat.le_refl _)]
theorem text_mid (m n : Int) : ((textOf m n).take ((textOf m n).length - 1)).drop (itoa m).length = sgn n :: decDigits n.natAbs := by
  rw [textOf_eq]
  have e : (itoa m ++ (sgn n :: decDigits n.natAbs) ++ [105]).length - 1 = (itoa m ++ (sgn n :: decDigits n.natAbs)).length := by simp
  rw [e, List.take_append_of_le_length (Nat.le_refl _), List.take_of_length_le (Nat.le_refl _), List.drop_append_of_le_length (Nat.le_refl _), List.drop_of_length_le (Nat.le_refl _)]
  rfl

def Small (n : Int) : Prop := -1000000000000 ≤ n ∧ n ≤ 1000000000000
theorem into_small (n : Int) : Small (into n) := ⟨by have := into_ge n; omega, by have := into_le n; omega⟩

/-- What is read of a value's text. -/
theorem text_read {m n : Int} (hm : Small m) (hn : Small n) {l : List UInt8} (hl : l = textOf m n) {k : Nat} (hk : LastAt l k) :
    atoiAll (l.take k) = .ok m ∧ atoiAll ((l.take (l.length - 1)).drop k) = .ok n := by
  subst hl
  obtain rfl := hk.unique (last_text m n)
  rw [text_front, text_mid]
  exact ⟨atoi_itoa m hm.1 hm.2, atoi_sgn n hn.1 hn.2⟩

theorem text_inj {m n m' n' : Int} (hm : Small m) (hn : Small n) (hm' : Small m') (hn' : Small n') (h : textOf m n = textOf m' n') : m = m' ∧ n = n' := by
  obtain ⟨a, b⟩ := text_read hm hn rfl (last_text m n)
  obtain ⟨a', b'⟩ := text_read hm' hn' h (last_text m n)
  rw [a] at a'; rw [b] at b'
  injection a' with e1
  injection b' with e2
  exact ⟨e1, e2⟩

theorem itoa_len (n : Int) (h : Small n) : (itoa n).length ≤ 21 := itoa_length_le n (by have := h.1; omega) (by have := h.2; omega)
theorem text_len {m n : Int} (hm : Small m) (hn : Small n) : (textOf m n).length ≤ 44 := by
  have := itoa_len m hm; have := itoa_len n hn
  unfold textOf
  split <;> simp <;> omega

end Go.Proofs.YtgkhmhbmdmjacaaDoor
