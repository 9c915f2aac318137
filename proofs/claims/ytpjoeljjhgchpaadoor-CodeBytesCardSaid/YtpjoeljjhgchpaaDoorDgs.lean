/- The document's digits: forebayref03.Digits. -/
import Derived.Test.YtpjoeljjhgchpaaDoorDec
import Derived.Deep.LoopGhost
namespace Go.Proofs.YtpjoeljjhgchpaaDoor
open Go.RowKit Go.Lib
set_option linter.unusedVariables false

/-- A number's digits, as the program's own. -/
def digS (n : Int) : ByteArray := ⟨(itoa n).toArray⟩

theorem digit_at (d : Nat) (h : d < 10) : (⟨#[48, 49, 50, 51, 52, 53, 54, 55, 56, 57]⟩ : ByteArray).extract d (d + 1) = ⟨#[UInt8.ofNat (48 + d)]⟩ := by
  have : d = 0 ∨ d = 1 ∨ d = 2 ∨ d = 3 ∨ d = 4 ∨ d = 5 ∨ d = 6 ∨ d = 7 ∨ d = 8 ∨ d = 9 := by omega
  rcases this with rfl | rfl | rfl | rfl | rfl | rfl | rfl | rfl | rfl | rfl <;> rfl

def dgt (d : Nat) : ByteArray := ⟨#[UInt8.ofNat (48 + d)]⟩

theorem app_mk (a : List UInt8) (x : UInt8) : (⟨(a ++ [x]).toArray⟩ : ByteArray) = ⟨a.toArray⟩ ++ ⟨#[x]⟩ := by
  apply ByteArray.ext
  rw [ByteArray.data_append]
  simp

theorem digS_small (u : Nat) (h : u < 10) : digS u = dgt u := by
  unfold digS itoa dgt
  rw [if_neg (by omega), show ((u : Int)).toNat = u by omega, decDigits_one h]

theorem digS_more (u : Nat) (h : 10 ≤ u) : digS u = digS (u / 10 : Nat) ++ dgt (u % 10) := by
  unfold digS itoa dgt
  rw [if_neg (by omega), if_neg (by omega), show ((u : Int)).toNat = u by omega, show (((u / 10 : Nat) : Int)).toNat = u / 10 by omega]
  rw [decDigits, dif_neg (by omega), app_mk]

theorem negS_small (u : Nat) (h : u < 10) (h0 : 0 < u) : digS (-(u : Int)) = ⟨#[45]⟩ ++ dgt u := by
  unfold digS itoa dgt
  rw [if_pos (by omega), show (-(u : Int)).natAbs = u by omega, decDigits_one h]
  exact app_mk [45] _

theorem negS_more (u : Nat) (h : 10 ≤ u) : digS (-(u : Int)) = digS (-((u / 10 : Nat) : Int)) ++ dgt (u % 10) := by
  unfold digS itoa dgt
  rw [if_pos (by omega), if_pos (by omega), show (-(u : Int)).natAbs = u by omega, show (-((u / 10 : Nat) : Int)).natAbs = u / 10 by omega]
  rw [decDigits, dif_neg (by omega), ← List.cons_append, app_mk]

theorem digS_size (n : Int) (h : Small n) : (digS n).size ≤ 21 := by
  have := itoa_len n h
  unfold digS
  show (itoa n).toArray.size ≤ 21
  simpa using this

theorem dgt_size (d : Nat) : (dgt d).size = 1 := by unfold dgt; rfl

attribute [irreducible] digS dgt

theorem digit_is (d : Nat) (h : d < 10) : (⟨#[48, 49, 50, 51, 52, 53, 54, 55, 56, 57]⟩ : ByteArray).extract d (d + 1) = dgt d := by
  rw [digit_at d h]; unfold dgt; rfl

set_option maxHeartbeats 1000000 in
theorem digits_neg : ∀ (f u : Nat), u ≤ f → 0 < u → u ≤ 1000000000000 → ∀ w : World,
    Calls Tryd.prog 32 #[.int .i64 (-(u : Int))] w fun e w' => e = .returned (.string (digS (-(u : Int)))) ∧ w' = w := by
  intro f
  induction f with
  | zero => intro u h1 h2 _ w; omega
  | succ f ih =>
    intro u h1 h2 h3 w
    have IH := hid ih; clear ih
    obtain ⟨m, hm⟩ : ∃ m, u % 10 = m := ⟨_, rfl⟩
    have hm9 : m < 10 := by omega
    obtain ⟨X, hX⟩ : ∃ X, (⟨#[48, 49, 50, 51, 52, 53, 54, 55, 56, 57]⟩ : ByteArray).extract m (m + 1) = X := ⟨_, rfl⟩
    have HX := hid ((digit_is m hm9).symm.trans hX)
    have d1 : decide (-(u : Int) < 0) = true := decide_eq_true (by omega)
    have hmod : Int.tmod (-(u : Int)) 10 = -(m : Int) := by rw [Int.neg_tmod]; congr 1; rw [← hm]; rfl
    by_cases hu : u < 10
    · have d2 : decide ((u : Int) < 10) = true := decide_eq_true (by omega)
      go_enter Tryd.func32, Tryd.ntmps32
      go_wp2_with fail
      go_ret
      obtain rfl : u = m := by omega
      exact ⟨by rw [Nat.add_comm 1 u, digit_is u hm9, negS_small u hu h2]; rfl, rfl⟩
    · have d2 : decide ((u : Int) < 10) = false := decide_eq_false (by omega)
      have hdiv : Int.tdiv (-(u : Int)) 10 = -((u / 10 : Nat) : Int) := by rw [Int.neg_tdiv]; congr 1
      go_enter Tryd.func32, Tryd.ntmps32
      go_wp2_with fail
      have he : -((u : Int) / 10) = -((u / 10 : Nat) : Int) := by omega
      rw [he]
      refine (IH.out (u / 10) (by omega) (by omega) (by omega) w).mono ?_
      rintro e w1 ⟨rfl, rfl⟩
      have hPs := digS_size (-((u / 10 : Nat) : Int)) ⟨by omega, by omega⟩
      obtain ⟨P, hP⟩ : ∃ P, digS (-((u / 10 : Nat) : Int)) = P := ⟨_, rfl⟩
      rw [hP] at hPs ⊢
      have HP := hid hP; clear hP
      have HMM := hid hm; clear hm
      rw [Nat.add_comm 1 m, hX]
      have hXs : X.size = 1 := by rw [← HX.out]; exact dgt_size m
      clear hX
      go_wp2_with fail
      go_ret
      exact ⟨by rw [negS_more u (by omega), HP.out, HMM.out, HX.out]; rfl, rfl⟩

/-- The digits that are still to come stand ahead of A. -/
def DigInv (u g : Nat) (A : ByteArray) : Prop := (g < 10 ∧ digS u = A) ∨ (10 ≤ g ∧ digS u = digS (g / 10 : Nat) ++ A)

theorem DigInv.start (u : Nat) : DigInv u u (dgt (u % 10)) := by
  by_cases h : u < 10
  · exact .inl ⟨h, by rw [digS_small u h, Nat.mod_eq_of_lt h]⟩
  · exact .inr ⟨by omega, digS_more u (by omega)⟩

theorem DigInv.step {u g : Nat} {A : ByteArray} (h : DigInv u g A) (hg : 10 ≤ g) : DigInv u (g / 10) (dgt (g / 10 % 10) ++ A) := by
  rcases h with h | ⟨_, h⟩
  · omega
  by_cases h1 : g / 10 < 10
  · exact .inl ⟨h1, by rw [h, digS_small _ h1, Nat.mod_eq_of_lt h1]⟩
  · exact .inr ⟨by omega, by rw [h, digS_more _ (by omega), ByteArray.append_assoc]⟩

set_option maxHeartbeats 1000000 in
theorem digits_pos (u : Nat) (h3 : u ≤ 1000000000000) (w : World) :
    Calls Tryd.prog 32 #[.int .i64 (u : Int)] w fun e w' => e = .returned (.string (digS (u : Int))) ∧ w' = w := by
  obtain ⟨m, hm⟩ : ∃ m, u % 10 = m := ⟨_, rfl⟩
  have hm9 : m < 10 := by omega
  have d1 : decide ((u : Int) < 0) = false := decide_eq_false (by omega)
  have hmod : Int.tmod (u : Int) 10 = (m : Int) := by rw [← hm]; rfl
  have HS := hid (DigInv.start u)
  have HM := hid hm
  go_enter Tryd.func32, Tryd.ntmps32
  go_wp2_with fail
  rw [digit_is m hm9, ← HM.out]
  clear d1 hmod hm HM hm9
  go_loopg [0, 5] u (fun g s0 s5 wx => s0 = .int .i64 (g : Int) ∧ g ≤ u ∧ wx = w ∧ ∃ A, s5 = .string A ∧ A.size ≤ 100 ∧ Hid (DigInv u g A))
  case atStart => exact ⟨rfl, Nat.le_refl _, rfl, _, rfl, by rw [dgt_size]; decide, HS⟩
  case round =>
    obtain ⟨rfl, hgu, rfl, A, rfl, hA, HI⟩ := hrel
    by_cases hg : gk < 10
    · have d2 : decide (10 ≤ (gk : Int)) = false := decide_eq_false (by omega)
      go_wp2_with fail
      go_ret
      rcases HI.out with ⟨_, h⟩ | ⟨h, _⟩
      · exact ⟨by rw [h]; rfl, rfl⟩
      · omega
    · have d2 : decide (10 ≤ (gk : Int)) = true := decide_eq_true (by omega)
      obtain ⟨v, hv⟩ : ∃ v, gk / 10 = v := ⟨_, rfl⟩
      obtain ⟨m, hm⟩ : ∃ m, v % 10 = m := ⟨_, rfl⟩
      have hm9 : m < 10 := by omega
      have hdiv : Int.tdiv (gk : Int) 10 = (v : Int) := by rw [← hv]; rfl
      have hdiv2 : (gk : Int) / 10 = (v : Int) := by rw [← hv]; rfl
      have hmod : Int.tmod (v : Int) 10 = (m : Int) := by rw [← hm]; rfl
      have hmod2 : (v : Int) % 10 = (m : Int) := by rw [← hm]; rfl
      have HM := hid hm; have HV := hid hv
      clear hm hv
      obtain ⟨X, hX⟩ : ∃ X, (⟨#[48, 49, 50, 51, 52, 53, 54, 55, 56, 57]⟩ : ByteArray).extract m (m + 1) = X := ⟨_, rfl⟩
      have HX := hid ((digit_is m hm9).symm.trans hX)
      have hXs : X.size = 1 := by rw [← HX.out]; exact dgt_size m
      have h := HI.out.step (by omega)
      rw [HV.out, HM.out, HX.out] at h
      have HH := hid h; clear h
      have hsz : (X ++ A).size ≤ 100 := by
        rcases HH.out with ⟨_, e⟩ | ⟨_, e⟩
        · rw [← e]; have := digS_size (u : Int) ⟨by omega, by omega⟩; omega
        · have h1 := congrArg ByteArray.size e
          rw [ByteArray.size_append] at h1
          have := digS_size (u : Int) ⟨by omega, by omega⟩; omega
      go_wp2_with fail
      go_roundg v
      case measure => have := HV.out; omega
      case rel =>
        exact ⟨rfl, by have := HV.out; omega, rfl, _, rfl, hsz, HH⟩

theorem digits_any (n : Int) (h : Small n) (w : World) :
    Calls Tryd.prog 32 #[.int .i64 n] w fun e w' => e = .returned (.string (digS n)) ∧ w' = w := by
  obtain ⟨h0, h1⟩ := h
  by_cases hn : n < 0
  · obtain ⟨u, rfl⟩ : ∃ u : Nat, n = -(u : Int) := ⟨n.natAbs, by omega⟩
    exact digits_neg u u (Nat.le_refl _) (by omega) (by omega) w
  · obtain ⟨u, rfl⟩ : ∃ u : Nat, n = (u : Int) := ⟨n.toNat, by omega⟩
    exact digits_pos u (by omega) w

theorem digits_is (n : Int) (h : Small n) (P : ByteArray) (hP : Hid (digS n = P)) (w : World) :
    Calls Tryd.prog 32 #[.int .i64 n] w fun e w' => e = .returned (.string P) ∧ w' = w := by
  have := digits_any n h w
  rw [hP.out] at this
  exact this

end Go.Proofs.YtpjoeljjhgchpaaDoor
