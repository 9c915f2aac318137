/- Layer 3, gauss: doubles that stand for whole numbers: plain facts. -/
import Derived.Test.YtfhlpbjdcdagjaaGreatDoorHaa
import Derived.Laws.ComplexArith
import Derived.Laws.FloatBits
namespace Go.Proofs.YtfhlpbjdcdagjaaGreatDoor
open Go.RowKit
set_option linter.unusedVariables false
set_option maxRecDepth 100000

/-- The word b of a double stands for the whole number n. -/
def Fl (b : Nat) (n : Int) : Prop :=
  ∃ (s : Bool) (m a : Nat), Ieee.double.read b = .number s m (-(a : Int)) ∧ Ieee.signed s m 0 = n * 2 ^ a

theorem signed_up (s : Bool) (m k : Nat) : Ieee.signed s m k = Ieee.signed s m 0 * 2 ^ k := by
  unfold Ieee.signed
  simp only [Nat.shiftLeft_eq, Nat.pow_zero, Nat.mul_one]
  cases s
  · simp
  · simp [Int.neg_mul]

theorem signed_abs (s : Bool) (m : Nat) : (Ieee.signed s m 0).natAbs = m := by
  unfold Ieee.signed
  simp only [Nat.shiftLeft_eq, Nat.pow_zero, Nat.mul_one]
  cases s <;> simp

theorem signed_sign (s : Bool) (m : Nat) (h : Ieee.signed s m 0 ≠ 0) : s = decide (Ieee.signed s m 0 < 0) := by
  revert h
  unfold Ieee.signed
  simp only [Nat.shiftLeft_eq, Nat.pow_zero, Nat.mul_one]
  cases s
  · simp
  · simp; omega

theorem signed_not (s : Bool) (m : Nat) : Ieee.signed (!s) m 0 = -Ieee.signed s m 0 := by
  unfold Ieee.signed
  cases s <;> simp

theorem two_pos (a : Nat) : (0 : Int) < 2 ^ a := Int.pow_pos (by decide)

theorem mul_pow_sign (n : Int) (a : Nat) : (n * 2 ^ a < 0) ↔ n < 0 := by
  have := two_pos a
  constructor
  · intro h
    rcases Int.lt_or_le n 0 with h1 | h1
    · exact h1
    · have := Int.mul_nonneg h1 (Int.le_of_lt this); omega
  · intro h
    exact Int.mul_neg_of_neg_of_pos h this
theorem mul_pow_zero (n : Int) (a : Nat) : (n * 2 ^ a = 0) ↔ n = 0 := by
  have := two_pos a
  constructor
  · intro h
    rcases Int.mul_eq_zero.1 h with h | h
    · exact h
    · omega
  · rintro rfl; simp
theorem mul_pow_abs (n : Int) (a : Nat) : (n * 2 ^ a).natAbs = n.natAbs * 2 ^ a := by
  rw [Int.natAbs_mul, Int.natAbs_pow]; rfl

theorem fl_abs {s : Bool} {m a : Nat} {n : Int} (h : Ieee.signed s m 0 = n * 2 ^ a) : m = n.natAbs * 2 ^ a := by
  rw [← signed_abs s m, h, mul_pow_abs]
theorem fl_sign {s : Bool} {m a : Nat} {n : Int} (h : Ieee.signed s m 0 = n * 2 ^ a) (hn : n ≠ 0) : s = decide (n < 0) := by
  have h0 : Ieee.signed s m 0 ≠ 0 := by rw [h]; intro e; exact hn ((mul_pow_zero _ _).1 e)
  rw [signed_sign s m h0, h]
  exact decide_eq_decide.2 (mul_pow_sign n a)

theorem log2_up (m a : Nat) (h : m ≠ 0) : (m * 2 ^ a).log2 = m.log2 + a := by
  have hp : 0 < 2 ^ a := Nat.two_pow_pos a
  have h1 : m * 2 ^ a ≠ 0 := Nat.mul_ne_zero h (by omega)
  rw [Nat.log2_eq_iff h1]
  have l := Nat.log2_self_le h
  have u := Nat.lt_log2_self (n := m)
  constructor
  · rw [Nat.pow_add]; exact Nat.mul_le_mul_right _ l
  · rw [show m.log2 + a + 1 = (m.log2 + 1) + a by omega, Nat.pow_add]; exact Nat.mul_lt_mul_of_pos_right u hp

theorem cut_up (s : Bool) (k d : Nat) (h : d ≤ (k * 2 ^ d).log2 + 2) : Ieee.Toward.even.cut s (k * 2 ^ d) d = k := by
  have hp : 0 < 2 ^ d := Nat.two_pow_pos d
  unfold Ieee.Toward.cut
  simp only [Nat.min_eq_left h, Nat.shiftLeft_eq, Nat.one_mul, Nat.mul_div_cancel _ hp, Nat.mul_mod_left]
  have : ¬ (2 ^ d < 2 * 0) := by omega
  have h2 : (2 ^ d == 2 * 0) = false := by rw [beq_eq_false_iff_ne]; omega
  simp [this, h2]

theorem cut_zero (s : Bool) (k d : Nat) : Ieee.Toward.zero.cut s (k * 2 ^ d) d = k := by
  have hp : 0 < 2 ^ d := Nat.two_pow_pos d
  unfold Ieee.Toward.cut
  by_cases hk : k = 0
  · subst hk; simp
  · have h : d ≤ (k * 2 ^ d).log2 + 2 := by rw [log2_up k d hk]; omega
    simp only [Nat.min_eq_left h, Nat.shiftLeft_eq, Nat.one_mul, Nat.mul_div_cancel _ hp]
    simp

set_option maxHeartbeats 1000000 in
/-- A whole number's word is read as that number. -/
theorem near_read (s : Bool) (M a : Nat) (h : M < 9007199254740992) :
    ∃ m c : Nat, Ieee.double.read (Ieee.double.nearest s (M * 2 ^ a) (-(a : Int))) = .number s m (-(c : Int)) ∧ m = M * 2 ^ c := by
  have hsw : Ieee.double.signWeight = 9223372036854775808 := rfl
  have hbi : Ieee.double.binade = 4503599627370496 := rfl
  have hin : Ieee.double.infRung = 2047 * 4503599627370496 := rfl
  have hle : Ieee.double.leastPlace = -1074 := rfl
  have hfr : Ieee.double.fractionBits = 52 := rfl
  by_cases hM : M = 0
  · subst hM
    obtain ⟨c, hc⟩ : ∃ c : Nat, 1074 = c := ⟨_, rfl⟩
    refine ⟨0, c, ?_, (Nat.zero_mul _).symm⟩
    have e : Ieee.double.nearest s (0 * 2 ^ a) (-(a : Int)) = Ieee.double.word s 0 := by unfold Ieee.Format.nearest; simp
    rw [e, ← hc]
    cases s <;> rfl
  · have hl := Nat.log2_self_le hM
    have hu := Nat.lt_log2_self (n := M)
    have h52 : M.log2 ≤ 52 := by
      have : M.log2 < 53 := (Nat.log2_lt hM).2 h
      omega
    have hlog := log2_up M a hM
    generalize he : M.log2 = e at hl hu h52 hlog
    have hp : 2 ^ e * 2 ^ (52 - e) = 4503599627370496 := by
      rw [← Nat.pow_add, show e + (52 - e) = 52 by omega]
    have hK1 : 4503599627370496 ≤ M * 2 ^ (52 - e) := by rw [← hp]; exact Nat.mul_le_mul_right _ hl
    have hK2 : M * 2 ^ (52 - e) < 9007199254740992 := by
      have : M * 2 ^ (52 - e) < 2 ^ (e + 1) * 2 ^ (52 - e) := Nat.mul_lt_mul_of_pos_right hu (Nat.two_pow_pos _)
      rw [Nat.pow_succ] at this
      have e2 : 2 ^ e * 2 * 2 ^ (52 - e) = 2 * (2 ^ e * 2 ^ (52 - e)) := by rw [Nat.mul_right_comm, Nat.mul_comm]
      omega
    refine ⟨M * 2 ^ (52 - e), 52 - e, ?_, rfl⟩
    have hne : M * 2 ^ a ≠ 0 := Nat.mul_ne_zero hM (by have := Nat.two_pow_pos a; omega)
    have hlast : max (-(a : Int) + ((M * 2 ^ a).log2 : Nat) - (52 : Nat)) (-1074) = (e : Int) - 52 := by rw [hlog]; omega
    have hcut : Ieee.Toward.even.cut s ((M * 2 ^ a) <<< (-(a : Int) - ((e : Int) - 52)).toNat) ((e : Int) - 52 - -(a : Int)).toNat = M * 2 ^ (52 - e) := by
      rw [Nat.shiftLeft_eq]
      rcases Nat.lt_or_ge (52 - e) a with hc | hc
      · rw [show (-(a : Int) - ((e : Int) - 52)).toNat = 0 by omega, show ((e : Int) - 52 - -(a : Int)).toNat = a - (52 - e) by omega, Nat.pow_zero, Nat.mul_one]
        have e3 : M * 2 ^ a = M * 2 ^ (52 - e) * 2 ^ (a - (52 - e)) := by rw [Nat.mul_assoc, ← Nat.pow_add, show 52 - e + (a - (52 - e)) = a by omega]
        have hd : a - (52 - e) ≤ (M * 2 ^ (52 - e) * 2 ^ (a - (52 - e))).log2 + 2 := by rw [← e3, hlog]; omega
        rw [e3, cut_up _ _ _ hd]
      · rw [show (-(a : Int) - ((e : Int) - 52)).toNat = 52 - e - a by omega, show ((e : Int) - 52 - -(a : Int)).toNat = 0 by omega, Nat.mul_assoc, ← Nat.pow_add, show a + (52 - e - a) = 52 - e by omega]
        have := cut_up s (M * 2 ^ (52 - e)) 0 (by omega)
        rw [Nat.pow_zero, Nat.mul_one] at this
        exact this
    have hnear : Ieee.double.nearest s (M * 2 ^ a) (-(a : Int)) = Ieee.double.word s ((1022 + e) * 4503599627370496 + M * 2 ^ (52 - e)) := by
      unfold Ieee.Format.nearest
      rw [if_neg hne]
      simp only [hle, hfr, hbi, hin, hlast, hcut]
      rw [show ((e : Int) - 52 - -1074).toNat = 1022 + e by omega, Nat.min_eq_left (by omega)]
    rw [hnear]
    clear hnear hcut hlast hne hlog hp hl hu
    generalize M * 2 ^ (52 - e) = K at hK1 hK2 ⊢
    have hrung : (1022 + e) * 4503599627370496 + K < 9223372036854775808 := by omega
    have hdiv : ((1022 + e) * 4503599627370496 + K) / 4503599627370496 = 1023 + e := by omega
    have hmod : ((1022 + e) * 4503599627370496 + K) % 4503599627370496 = K - 4503599627370496 := by omega
    have hq : Ieee.double.word s ((1022 + e) * 4503599627370496 + K) / 9223372036854775808 % 2 = if s then 1 else 0 := by
      unfold Ieee.Format.word
      rw [hsw]
      cases s <;> simp <;> omega
    have hr : Ieee.double.word s ((1022 + e) * 4503599627370496 + K) % 9223372036854775808 = (1022 + e) * 4503599627370496 + K := by
      unfold Ieee.Format.word
      rw [hsw]
      cases s <;> simp <;> omega
    unfold Ieee.Format.read
    simp only [hsw, hbi, hin, hle, hq, hr, hdiv, hmod]
    rw [if_neg (by omega), if_pos (by omega)]
    have hs : ((if s = true then 1 else 0) == 1) = s := by cases s <;> rfl
    have e1 : 4503599627370496 + (K - 4503599627370496) = K := by omega
    have e2 : (-1074 : Int) + ((1023 + e - 1 : Nat) : Int) = -((52 - e : Nat) : Int) := by omega
    rw [hs, e1, e2]

theorem fl_near (s : Bool) (N : Int) (M a : Nat) (hM : M = N.natAbs * 2 ^ a) (hN : N.natAbs < 9007199254740992) (hs : N ≠ 0 → s = decide (N < 0)) :
    Fl (Ieee.double.nearest s M (-(a : Int))) N := by
  subst hM
  obtain ⟨m, c, h1, h2⟩ := near_read s N.natAbs a hN
  refine ⟨s, m, c, h1, ?_⟩
  subst h2
  by_cases h0 : N = 0
  · subst h0
    unfold Ieee.signed
    simp
  · have e : N = (if s then -(N.natAbs : Int) else (N.natAbs : Int)) := by
      rw [hs h0]
      by_cases hn : N < 0
      · simp [hn]; omega
      · simp [hn]; omega
    conv => rhs; rw [e]
    unfold Ieee.signed
    cases s <;> simp [Int.neg_mul]

theorem fl_int (n : Int) (h : n.natAbs < 9007199254740992) : Fl (floatOfInt .f64 n) n := by
  have := fl_near (decide (n < 0)) n n.natAbs 0 (by simp) h (fun _ => rfl)
  exact this

theorem fl_read {x : Nat} {s : Bool} {m : Nat} (a : Nat) {n : Int} (h : Ieee.double.read x = .number s m (-(a : Int))) (h2 : Ieee.signed s m 0 = n * 2 ^ a) : Fl x n := ⟨s, m, a, h, h2⟩

theorem fl_add {x y : Nat} {m n : Int} (hx : Fl x m) (hy : Fl y n) (h : (m + n).natAbs < 9007199254740992) : ∃ r, floatBits .add .f64 x y = some r ∧ Fl r (m + n) := by
  obtain ⟨s, p, a, h1, h2⟩ := hx
  obtain ⟨t, q, b, h3, h4⟩ := hy
  have hf : FloatKind.f64.format = Ieee.double := rfl
  have hb : min (-(a : Int)) (-(b : Int)) = -((max a b : Nat) : Int) := by omega
  have ht : Ieee.signed s p (-(a : Int) - -((max a b : Nat) : Int)).toNat + Ieee.signed t q (-(b : Int) - -((max a b : Nat) : Int)).toNat = (m + n) * 2 ^ max a b := by
    rw [signed_up s, signed_up t, h2, h4, show (-(a : Int) - -((max a b : Nat) : Int)).toNat = max a b - a by omega, show (-(b : Int) - -((max a b : Nat) : Int)).toNat = max a b - b by omega]
    rw [Int.mul_assoc, Int.mul_assoc, ← Int.pow_add, ← Int.pow_add, show a + (max a b - a) = max a b by omega, show b + (max a b - b) = max a b by omega, Int.add_mul]
  refine ⟨_, ?_, fl_near (if (m + n) * 2 ^ max a b = 0 then s && t else decide ((m + n) * 2 ^ max a b < 0)) (m + n) ((m + n) * 2 ^ max a b).natAbs (max a b) (mul_pow_abs _ _) h ?_⟩
  · unfold floatBits
    simp only [hf, Ieee.Format.add, h1, h3, Ieee.Datum.sum, hb, ht]
    rfl
  · intro h0
    rw [if_neg (fun e => h0 ((mul_pow_zero _ _).1 e))]
    exact decide_eq_decide.2 (mul_pow_sign _ _)

theorem fl_sub {x y : Nat} {m n : Int} (hx : Fl x m) (hy : Fl y n) (h : (m - n).natAbs < 9007199254740992) : ∃ r, floatBits .sub .f64 x y = some r ∧ Fl r (m - n) := by
  obtain ⟨s, p, a, h1, h2⟩ := hx
  obtain ⟨t, q, b, h3, h4⟩ := hy
  have hf : FloatKind.f64.format = Ieee.double := rfl
  have hb : min (-(a : Int)) (-(b : Int)) = -((max a b : Nat) : Int) := by omega
  have ht : Ieee.signed s p (-(a : Int) - -((max a b : Nat) : Int)).toNat + Ieee.signed (!t) q (-(b : Int) - -((max a b : Nat) : Int)).toNat = (m - n) * 2 ^ max a b := by
    rw [signed_up s, signed_up (!t), signed_not, h2, h4, show (-(a : Int) - -((max a b : Nat) : Int)).toNat = max a b - a by omega, show (-(b : Int) - -((max a b : Nat) : Int)).toNat = max a b - b by omega]
    rw [Int.neg_mul, Int.mul_assoc, Int.mul_assoc, ← Int.pow_add, ← Int.pow_add, show a + (max a b - a) = max a b by omega, show b + (max a b - b) = max a b by omega, Int.sub_mul]
    rfl
  refine ⟨_, ?_, fl_near (if (m - n) * 2 ^ max a b = 0 then s && !t else decide ((m - n) * 2 ^ max a b < 0)) (m - n) ((m - n) * 2 ^ max a b).natAbs (max a b) (mul_pow_abs _ _) h ?_⟩
  · unfold floatBits
    simp only [hf, Ieee.Format.sub, h1, h3, Ieee.Datum.opposite, Ieee.Datum.sum, hb, ht]
    rfl
  · intro h0
    rw [if_neg (fun e => h0 ((mul_pow_zero _ _).1 e))]
    exact decide_eq_decide.2 (mul_pow_sign _ _)

theorem sign_mul (m n : Int) (h : m * n ≠ 0) : (decide (m < 0) ^^ decide (n < 0)) = decide (m * n < 0) := by
  have hm : m ≠ 0 := fun e => h (by rw [e]; simp)
  have hn : n ≠ 0 := fun e => h (by rw [e]; simp)
  rcases Int.lt_or_lt_of_ne hm with a | a <;> rcases Int.lt_or_lt_of_ne hn with b | b
  · have := Int.mul_pos_of_neg_of_neg a b
    simp [a, b]; omega
  · have := Int.mul_neg_of_neg_of_pos a b
    have b' : ¬ n < 0 := by omega
    simp [a, b', this]
  · have := Int.mul_neg_of_pos_of_neg a b
    have a' : ¬ m < 0 := by omega
    simp [a', b, this]
  · have := Int.mul_pos a b
    have a' : ¬ m < 0 := by omega
    have b' : ¬ n < 0 := by omega
    simp [a', b']; omega

theorem fl_mul {x y : Nat} {m n : Int} (hx : Fl x m) (hy : Fl y n) (h : (m * n).natAbs < 9007199254740992) : ∃ r, floatBits .mul .f64 x y = some r ∧ Fl r (m * n) := by
  obtain ⟨s, p, a, h1, h2⟩ := hx
  obtain ⟨t, q, b, h3, h4⟩ := hy
  have hf : FloatKind.f64.format = Ieee.double := rfl
  have hb : -(a : Int) + -(b : Int) = -((a + b : Nat) : Int) := by omega
  refine ⟨_, ?_, fl_near (s ^^ t) (m * n) (p * q) (a + b) ?_ h ?_⟩
  · unfold floatBits
    simp only [hf, Ieee.Format.mul, h1, h3, Ieee.Datum.product, hb]
    rfl
  · rw [fl_abs h2, fl_abs h4, Int.natAbs_mul, Nat.pow_add]
    simp only [Nat.mul_assoc, Nat.mul_left_comm]
  · intro h0
    have hm : m ≠ 0 := fun e => h0 (by rw [e]; simp)
    have hn : n ≠ 0 := fun e => h0 (by rw [e]; simp)
    rw [fl_sign h2 hm, fl_sign h4 hn, sign_mul m n h0]

theorem fl_neg {x : Nat} {n : Int} (hx : Fl x n) : Fl (Op.negFloat .f64 x) (-n) := by
  obtain ⟨s, p, a, h1, h2⟩ := hx
  refine ⟨!s, p, a, ?_, by rw [signed_not, h2, Int.neg_mul]⟩
  have hsw : Ieee.double.signWeight = 9223372036854775808 := rfl
  have e1 : Op.negFloat .f64 x = x ^^^ 2 ^ 63 := rfl
  have e2 : (x ^^^ 2 ^ 63) % 2 ^ 63 = x % 2 ^ 63 := by
    rw [Nat.xor_mod_two_pow, Nat.mod_self, Nat.xor_zero]
  have e3 : (x ^^^ 2 ^ 63) / 2 ^ 63 = (x / 2 ^ 63) ^^^ 1 := by
    rw [Nat.xor_div_two_pow, Nat.div_self (by decide)]
  have e4 : ((x ^^^ 2 ^ 63) / 2 ^ 63) % 2 = (x / 2 ^ 63 + 1) % 2 := by
    rw [e3]
    have k := @Nat.xor_mod_two_eq_one (x / 2 ^ 63) 1
    rcases Nat.mod_two_eq_zero_or_one (x / 2 ^ 63) with h | h <;> rcases Nat.mod_two_eq_zero_or_one ((x / 2 ^ 63) ^^^ 1) with h' | h' <;> simp [h, h'] at k ⊢ <;> omega
  have e5 : Ieee.double.read (x ^^^ 2 ^ 63) = (Ieee.double.read x).opposite := by
    have f2 : (x ^^^ 2 ^ 63) % 9223372036854775808 = x % 9223372036854775808 := e2
    have f4 : (x ^^^ 2 ^ 63) / 9223372036854775808 % 2 = (x / 9223372036854775808 + 1) % 2 := e4
    unfold Ieee.Format.read
    simp only [hsw, f2, f4]
    have f5 : ((x / 9223372036854775808 + 1) % 2 == 1) = !(x / 9223372036854775808 % 2 == 1) := by
      rcases Nat.mod_two_eq_zero_or_one (x / 9223372036854775808) with h | h
      · rw [h, show (x / 9223372036854775808 + 1) % 2 = 1 by omega]; rfl
      · rw [h, show (x / 9223372036854775808 + 1) % 2 = 0 by omega]; rfl
    rw [f5]
    split
    · rfl
    · split
      · rfl
      · split <;> rfl
  rw [e1, e5, h1]
  rfl

theorem fl_order {x y : Nat} {m n : Int} (hx : Fl x m) (hy : Fl y n) : FloatKind.f64.format.order x y = some (compare m n) := by
  obtain ⟨s, p, a, h1, h2⟩ := hx
  obtain ⟨t, q, b, h3, h4⟩ := hy
  have hf : FloatKind.f64.format = Ieee.double := rfl
  have hb : min (-(a : Int)) (-(b : Int)) = -((max a b : Nat) : Int) := by omega
  have e1 : Ieee.signed s p (-(a : Int) - -((max a b : Nat) : Int)).toNat = m * 2 ^ max a b := by
    rw [signed_up s, h2, show (-(a : Int) - -((max a b : Nat) : Int)).toNat = max a b - a by omega, Int.mul_assoc, ← Int.pow_add, show a + (max a b - a) = max a b by omega]
  have e2 : Ieee.signed t q (-(b : Int) - -((max a b : Nat) : Int)).toNat = n * 2 ^ max a b := by
    rw [signed_up t, h4, show (-(b : Int) - -((max a b : Nat) : Int)).toNat = max a b - b by omega, Int.mul_assoc, ← Int.pow_add, show b + (max a b - b) = max a b by omega]
  simp only [hf, Ieee.Format.order, h1, h3, Ieee.Datum.order, hb, e1, e2]
  congr 1
  have hp := two_pos (max a b)
  rcases Int.lt_trichotomy m n with h | h | h
  · rw [Int.compare_eq_lt.2 h, Int.compare_eq_lt.2 (Int.mul_lt_mul_of_pos_right h hp)]
  · subst h; rw [Int.compare_eq_eq.2 rfl, Int.compare_eq_eq.2 rfl]
  · rw [Int.compare_eq_gt.2 h, Int.compare_eq_gt.2 (Int.mul_lt_mul_of_pos_right h hp)]

theorem fl_lt {x y : Nat} {m n : Int} (hx : Fl x m) (hy : Fl y n) : (FloatKind.f64.format.order x y == some .lt) = decide (m < n) := by
  rw [fl_order hx hy]
  rcases Int.lt_trichotomy m n with h | h | h
  · rw [Int.compare_eq_lt.2 h]; simp [h]
  · subst h; rw [Int.compare_eq_eq.2 rfl]; simp
  · rw [Int.compare_eq_gt.2 h]; simp; omega

theorem fl_eq {x y : Nat} {m n : Int} (hx : Fl x m) (hy : Fl y n) : (FloatKind.f64.format.order x y == some .eq) = decide (m = n) := by
  rw [fl_order hx hy]
  rcases Int.lt_trichotomy m n with h | h | h
  · rw [Int.compare_eq_lt.2 h]; simp; omega
  · subst h; rw [Int.compare_eq_eq.2 rfl]; simp
  · rw [Int.compare_eq_gt.2 h]; simp; omega

theorem fl_toInt {x : Nat} {n : Int} (hx : Fl x n) (h0 : -9223372036854775808 ≤ n) (h1 : n ≤ 9223372036854775807) : floatToIntVal .f64 x .i64 = some n := by
  obtain ⟨s, p, a, h2, h3⟩ := hx
  have hd : FloatKind.f64.decode x = .number s p (-(a : Int)) := h2
  have e : (FloatKind.f64.decode x).toInt .zero = some n := by
    rw [hd]
    have e2 : (-(a : Int)).toNat = 0 := by omega
    have e3 : (- -(a : Int)).toNat = a := by omega
    have e4 : Ieee.Toward.zero.cut s p a = n.natAbs := by rw [fl_abs h3, cut_zero]
    simp only [Ieee.Datum.toInt, Ieee.Datum.integral, e2, e3, Nat.shiftLeft_zero, e4]
    congr 1
    by_cases hn : n = 0
    · subst hn; unfold Ieee.signed; simp
    · rw [fl_sign h3 hn]
      unfold Ieee.signed
      by_cases h : n < 0
      · simp [h]; omega
      · simp [h]; omega
  unfold floatToIntVal
  rw [e]
  have hmin : IntKind.i64.min = -9223372036854775808 := rfl
  have hmax : IntKind.i64.max = 9223372036854775807 := rfl
  simp only [hmin, hmax, h0, h1, and_self, if_true]

/-- A complex number whose parts are whole. -/
def Cx (v : Value) (m n : Int) : Prop := ∃ x y, v = .complex .f64 x y ∧ Fl x m ∧ Fl y n

theorem cx_add {P : Program} (t : TypeId) {x y : Value} {a b c d : Int} (hx : Cx x a b) (hy : Cx y c d) (h1 : (a + c).natAbs < 9007199254740992) (h2 : (b + d).natAbs < 9007199254740992) :
    ∃ r, Cx r (a + c) (b + d) ∧ ∀ w : World, (binOp .add t x y).run P w = .ok r w := by
  obtain ⟨x1, x2, rfl, f1, f2⟩ := hx
  obtain ⟨y1, y2, rfl, g1, g2⟩ := hy
  obtain ⟨r1, e1, k1⟩ := fl_add f1 g1 h1
  obtain ⟨r2, e2, k2⟩ := fl_add f2 g2 h2
  exact ⟨_, ⟨r1, r2, rfl, k1, k2⟩, fun w => run_complex_sum w .add (.inl rfl) t .f64 x1 x2 y1 y2 r1 r2 (by unfold cSumBits; rw [e1, e2]; rfl)⟩

theorem cx_sub {P : Program} (t : TypeId) {x y : Value} {a b c d : Int} (hx : Cx x a b) (hy : Cx y c d) (h1 : (a - c).natAbs < 9007199254740992) (h2 : (b - d).natAbs < 9007199254740992) :
    ∃ r, Cx r (a - c) (b - d) ∧ ∀ w : World, (binOp .sub t x y).run P w = .ok r w := by
  obtain ⟨x1, x2, rfl, f1, f2⟩ := hx
  obtain ⟨y1, y2, rfl, g1, g2⟩ := hy
  obtain ⟨r1, e1, k1⟩ := fl_sub f1 g1 h1
  obtain ⟨r2, e2, k2⟩ := fl_sub f2 g2 h2
  exact ⟨_, ⟨r1, r2, rfl, k1, k2⟩, fun w => run_complex_sum w .sub (.inr rfl) t .f64 x1 x2 y1 y2 r1 r2 (by unfold cSumBits; rw [e1, e2]; rfl)⟩

theorem abs_mul_le {a b : Int} (ha : a.natAbs ≤ 1048576) (hb : b.natAbs ≤ 1048576) : (a * b).natAbs ≤ 1099511627776 := by
  rw [Int.natAbs_mul]
  exact Nat.mul_le_mul ha hb

theorem cx_mul {P : Program} (t : TypeId) {x y : Value} {a b c d : Int} (hx : Cx x a b) (hy : Cx y c d) (ha : a.natAbs ≤ 1048576) (hb : b.natAbs ≤ 1048576) (hc : c.natAbs ≤ 1048576) (hd : d.natAbs ≤ 1048576) :
    ∃ r, Cx r (a * c - b * d) (a * d + b * c) ∧ ∀ w : World, (binOp .mul t x y).run P w = .ok r w := by
  obtain ⟨x1, x2, rfl, f1, f2⟩ := hx
  obtain ⟨y1, y2, rfl, g1, g2⟩ := hy
  have m1 := abs_mul_le ha hc
  have m2 := abs_mul_le hb hd
  have m3 := abs_mul_le ha hd
  have m4 := abs_mul_le hb hc
  obtain ⟨ac, e1, k1⟩ := fl_mul f1 g1 (by omega)
  obtain ⟨bd, e2, k2⟩ := fl_mul f2 g2 (by omega)
  obtain ⟨ad, e3, k3⟩ := fl_mul f1 g2 (by omega)
  obtain ⟨bc, e4, k4⟩ := fl_mul f2 g1 (by omega)
  obtain ⟨re, e5, k5⟩ := fl_sub k1 k2 (by omega)
  obtain ⟨im, e6, k6⟩ := fl_add k3 k4 (by omega)
  exact ⟨_, ⟨re, im, rfl, k5, k6⟩, fun w => run_complex_mul w t x1 x2 y1 y2 re im (by unfold cMulBits; rw [e1, e2, e3, e4]; simp only [Option.bind_some]; rw [e5, e6]; rfl)⟩

end Go.Proofs.YtfhlpbjdcdagjaaGreatDoor
