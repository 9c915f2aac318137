/- Layer 2, sum: the plain facts on the register: no memory, no program. -/
import Derived.KernelRfl
namespace Go.Proofs.Ytibnepjlddfnhaa

def poly : Nat := 2197175160
def st1 (r : Nat) : Nat := if r % 2 = 1 then (r / 2) ^^^ poly else r / 2
def stN : Nat → Nat → Nat
  | 0, r => r
  | n + 1, r => stN n (st1 r)
def reg (r : Nat) (bs : List UInt8) : Nat := bs.foldl (fun r c => stN 8 (r ^^^ c.toNat)) r
/-- The sum of bytes. -/
def crc (bs : List UInt8) : Nat := 4294967295 - reg 4294967295 bs

theorem st1_lin (a b : Nat) : st1 (a ^^^ b) = st1 a ^^^ st1 b := by
  have h1 : (a ^^^ b) / 2 = a / 2 ^^^ b / 2 := Nat.xor_div_two
  have h2 : (a ^^^ b) % 2 = 1 ↔ ¬ ((a % 2 = 1) ↔ (b % 2 = 1)) := Nat.xor_mod_two_eq_one
  unfold st1
  rw [h1]
  rcases Nat.mod_two_eq_zero_or_one a with ha | ha <;> rcases Nat.mod_two_eq_zero_or_one b with hb | hb <;> rw [ha, hb] at h2
  · rw [if_neg (by rw [h2]; simp), if_neg (by omega), if_neg (by omega)]
  · rw [if_pos (by rw [h2]; simp), if_neg (by omega), if_pos (by omega), Nat.xor_assoc]
  · rw [if_pos (by rw [h2]; simp), if_pos (by omega), if_neg (by omega), Nat.xor_assoc, Nat.xor_assoc, Nat.xor_comm poly]
  · rw [if_neg (by rw [h2]; simp), if_pos (by omega), if_pos (by omega), Nat.xor_assoc, Nat.xor_comm poly, Nat.xor_assoc, Nat.xor_self, Nat.xor_zero]

theorem stN_lin : ∀ (n a b : Nat), stN n (a ^^^ b) = stN n a ^^^ stN n b
  | 0, _, _ => rfl
  | n + 1, a, b => by simp only [stN]; rw [st1_lin, stN_lin n]

theorem stN_add : ∀ (m n r : Nat), stN (m + n) r = stN n (stN m r)
  | 0, n, r => by simp [stN]
  | m + 1, n, r => by rw [Nat.add_right_comm]; simp only [stN]; exact stN_add m n _

theorem stN_succ (n r : Nat) : stN (n + 1) r = st1 (stN n r) := by rw [stN_add]; rfl

theorem st1_even (x : Nat) : st1 (2 * x) = x := by unfold st1; rw [if_neg (by omega)]; omega

theorem stN_pow : ∀ (n x : Nat), stN n (2 ^ n * x) = x
  | 0, x => by simp [stN]
  | n + 1, x => by
    simp only [stN]
    rw [show 2 ^ (n + 1) * x = 2 * (2 ^ n * x) by rw [Nat.pow_succ, Nat.mul_comm (2 ^ n) 2, Nat.mul_assoc], st1_even, stN_pow n]

theorem split16 (r : Nat) : 2 ^ 4 * (r / 16) ^^^ r % 16 = r := by
  have h1 : (2 ^ 4 * (r / 16) ^^^ r % 16) / 2 ^ 4 = r / 16 := by
    rw [Nat.xor_div_two_pow]
    have e1 : 2 ^ 4 * (r / 16) / 2 ^ 4 = r / 16 := by omega
    have e2 : r % 16 / 2 ^ 4 = 0 := by omega
    rw [e1, e2, Nat.xor_zero]
  have h2 : (2 ^ 4 * (r / 16) ^^^ r % 16) % 2 ^ 4 = r % 16 := by
    rw [Nat.xor_mod_two_pow]
    have e1 : 2 ^ 4 * (r / 16) % 2 ^ 4 = 0 := by omega
    have e2 : r % 16 % 2 ^ 4 = r % 16 := by omega
    rw [e1, e2, Nat.zero_xor]
  omega

/-- Four steps at once. -/
theorem nib (r : Nat) : r / 16 ^^^ stN 4 (r % 16) = stN 4 r := by
  have h := congrArg (stN 4) (split16 r)
  rw [stN_lin, stN_pow] at h
  exact h

theorem st1_lt {r : Nat} (h : r < 4294967296) : st1 r < 4294967296 := by
  unfold st1
  split
  · exact Nat.xor_lt_two_pow (n := 32) (by omega) (by unfold poly; omega)
  · omega

theorem stN_lt : ∀ (n : Nat) {r : Nat}, r < 4294967296 → stN n r < 4294967296
  | 0, _, h => h
  | n + 1, _, h => stN_lt n (st1_lt h)

theorem xor_lt32 {a b : Nat} (ha : a < 4294967296) (hb : b < 4294967296) : a ^^^ b < 4294967296 := Nat.xor_lt_two_pow (n := 32) ha hb

theorem reg_lt : ∀ (bs : List UInt8) {r : Nat}, r < 4294967296 → reg r bs < 4294967296
  | [], _, h => h
  | c :: bs, _, h => reg_lt bs (stN_lt 8 (xor_lt32 h (by have := c.toNat_lt; omega)))

theorem reg_append (r : Nat) (a b : List UInt8) : reg r (a ++ b) = reg (reg r a) b := by simp [reg, List.foldl_append]
theorem reg_snoc (r : Nat) (a : List UInt8) (c : UInt8) : reg r (a ++ [c]) = stN 8 (reg r a ^^^ c.toNat) := by simp [reg, List.foldl_append]
theorem reg_nil (r : Nat) : reg r [] = r := rfl
theorem reg_cons (r : Nat) (c : UInt8) (b : List UInt8) : reg r (c :: b) = reg (stN 8 (r ^^^ c.toNat)) b := rfl

theorem crc_lt (bs : List UInt8) : crc bs < 4294967296 := by unfold crc; omega

/-! ### A byte at a time, bit by bit -/

/-- The register and the byte behind k bits, as they are held against each other. -/
def bits2 : Nat → Nat → Nat → Nat × Nat
  | 0, r, c => (r, c)
  | n + 1, r, c => let p := bits2 n r c; (if p.1 % 2 = p.2 % 2 then p.1 / 2 else (p.1 / 2) ^^^ poly, p.2 / 2)

theorem bits2_xor : ∀ (n r c : Nat), (bits2 n r c).1 ^^^ (bits2 n r c).2 = stN n (r ^^^ c)
  | 0, _, _ => rfl
  | n + 1, r, c => by
    rw [stN_succ, ← bits2_xor n r c]
    simp only [bits2]
    generalize (bits2 n r c).1 = x
    generalize (bits2 n r c).2 = y
    have h1 : (x ^^^ y) / 2 = x / 2 ^^^ y / 2 := Nat.xor_div_two
    have h2 : (x ^^^ y) % 2 = 1 ↔ ¬ ((x % 2 = 1) ↔ (y % 2 = 1)) := Nat.xor_mod_two_eq_one
    unfold st1
    rw [h1]
    by_cases e : x % 2 = y % 2
    · rw [if_pos e, if_neg (by rw [h2, e]; simp)]
    · rw [if_neg e, if_pos (by rw [h2]; omega), Nat.xor_assoc, Nat.xor_assoc, Nat.xor_comm poly]

theorem bits2_snd : ∀ (n r c : Nat), (bits2 n r c).2 = c / 2 ^ n
  | 0, _, c => by simp [bits2]
  | n + 1, r, c => by
    simp only [bits2]
    rw [bits2_snd n, Nat.div_div_eq_div_mul, Nat.pow_succ]

theorem bits2_eight (r c : Nat) (hc : c < 256) : (bits2 8 r c).1 = stN 8 (r ^^^ c) := by
  rw [← bits2_xor, bits2_snd, Nat.div_eq_of_lt (by simpa using hc), Nat.xor_zero]

theorem bits2_lt : ∀ (n r c : Nat), r < 4294967296 → (bits2 n r c).1 < 4294967296
  | 0, _, _, h => h
  | n + 1, r, c, h => by
    have h' := bits2_lt n r c h
    simp only [bits2]
    split
    · omega
    · exact xor_lt32 (by omega) (by unfold poly; omega)

theorem bits2_snd_lt (n r c : Nat) (h : c < 256) : (bits2 n r c).2 < 256 := by
  rw [bits2_snd]; exact Nat.lt_of_le_of_lt (Nat.div_le_self _ _) h

theorem bits2_same {m r c x y : Nat} (hx : (bits2 m r c).1 = x) (hy : (bits2 m r c).2 = y) (h : x % 2 = y % 2) : (bits2 (m + 1) r c).1 = x / 2 := by
  subst hx hy; simp only [bits2]; rw [if_pos h]
theorem bits2_flip {m r c x y : Nat} (hx : (bits2 m r c).1 = x) (hy : (bits2 m r c).2 = y) (h : ¬ x % 2 = y % 2) : (bits2 (m + 1) r c).1 = (x / 2) ^^^ poly := by
  subst hx hy; simp only [bits2]; rw [if_neg h]
theorem bits2_half {m r c y : Nat} (hy : (bits2 m r c).2 = y) : (bits2 (m + 1) r c).2 = y / 2 := by
  subst hy; rfl

/-! ### Unlike registers stay unlike -/

theorem high (x : Nat) (h : x < 2147483648) : 2147483648 ≤ x ^^^ poly := by
  have e : (x ^^^ poly) / 2 ^ 31 = 1 := by
    rw [Nat.xor_div_two_pow]
    have e1 : x / 2 ^ 31 = 0 := by omega
    have e2 : poly / 2 ^ 31 = 1 := by unfold poly; rfl
    rw [e1, e2, Nat.zero_xor]
  omega

theorem xor_cancel {a b c : Nat} (h : a ^^^ c = b ^^^ c) : a = b := by
  have := congrArg (· ^^^ c) h
  simpa [Nat.xor_assoc] using this

theorem st1_inj {a b : Nat} (ha : a < 4294967296) (hb : b < 4294967296) (h : st1 a = st1 b) : a = b := by
  unfold st1 at h
  have p1 := high (a / 2) (by omega)
  have p2 := high (b / 2) (by omega)
  split at h <;> split at h
  · have := xor_cancel h; omega
  · omega
  · omega
  · omega

theorem stN_inj : ∀ (n : Nat) {a b : Nat}, a < 4294967296 → b < 4294967296 → stN n a = stN n b → a = b
  | 0, _, _, _, _, h => h
  | n + 1, _, _, ha, hb, h => st1_inj ha hb (stN_inj n (st1_lt ha) (st1_lt hb) h)

theorem byte_lt (c : UInt8) : c.toNat < 4294967296 := by have := c.toNat_lt; omega

theorem reg_inj : ∀ (bs : List UInt8) {a b : Nat}, a < 4294967296 → b < 4294967296 → reg a bs = reg b bs → a = b
  | [], _, _, _, _, h => h
  | c :: bs, a, b, ha, hb, h => by
    have h1 := reg_inj bs (stN_lt 8 (xor_lt32 ha (byte_lt c))) (stN_lt 8 (xor_lt32 hb (byte_lt c))) h
    exact xor_cancel (stN_inj 8 (xor_lt32 ha (byte_lt c)) (xor_lt32 hb (byte_lt c)) h1)

theorem reg_unlike (r : Nat) (hr : r < 4294967296) (xs ys : List UInt8) (c d : UInt8) (h : c ≠ d) : reg r (xs ++ c :: ys) ≠ reg r (xs ++ d :: ys) := by
  intro e
  rw [reg_append, reg_append, reg_cons, reg_cons] at e
  have hx := reg_lt xs hr
  have e1 := reg_inj ys (stN_lt 8 (xor_lt32 hx (byte_lt c))) (stN_lt 8 (xor_lt32 hx (byte_lt d))) e
  have e2 := stN_inj 8 (xor_lt32 hx (byte_lt c)) (xor_lt32 hx (byte_lt d)) e1
  rw [Nat.xor_comm _ c.toNat, Nat.xor_comm _ d.toNat] at e2
  exact h (UInt8.toNat_inj.1 (xor_cancel e2))

theorem crc_unlike (xs ys : List UInt8) (c d : UInt8) (h : c ≠ d) : crc (xs ++ c :: ys) ≠ crc (xs ++ d :: ys) := by
  have h1 := reg_unlike 4294967295 (by omega) xs ys c d h
  have h2 := reg_lt (xs ++ c :: ys) (r := 4294967295) (by omega)
  have h3 := reg_lt (xs ++ d :: ys) (r := 4294967295) (by omega)
  unfold crc
  omega

theorem crc_noughts : crc [0, 0, 0, 0] ≠ 0 := by decide +kernel
theorem crc_digits : crc [49, 50, 51, 52, 53, 54, 55, 56, 57] = 3808858755 := by decide +kernel

end Go.Proofs.Ytibnepjlddfnhaa
