/- Layer 4, code: what may be, the program's answers and the document's: a contract for each function. -/
import Derived.Test.YtfhlpbjdcdagjaaGreatDoorHah
import Derived.Deep.QuietTactic
import Derived.BigQuiet
import Derived.RegionTactic
import Derived.BigRegion
namespace Go.Proofs.YtfhlpbjdcdagjaaGreatDoor
open Go.RowKit
set_option linter.unusedVariables false
set_option maxRecDepth 100000

theorem hi_neg (o : Int) (h : numdI o = false) : hiI o = 0 := by
  have hh : ¬ (numdI o = true) := by rw [h]; simp
  rw [numdI_iff] at hh
  unfold hiI; rw [if_neg (by omega), if_neg (by omega), if_neg (by omega)]

theorem reach_any (o : Int) (w : World) :
    Calls Tryz.prog 61 #[.int .i64 o] w fun e w' => e = .returned (.tuple #[.int .i64 (loI o), .int .i64 (hiI o)]) ∧ w' = w := by
  by_cases h : o = 1 ∨ o = 2 ∨ o = 4 ∨ o = 5 ∨ o = 15 ∨ o = 16
  · rcases h with rfl | rfl | rfl | rfl | rfl | rfl
    all_goals
      go_enter Tryz.func61, Tryz.ntmps61
      go_wp2
      go_ret2
      exact ⟨rfl, rfl⟩
  · have e1 : loI o = 0 := by unfold loI; rw [if_neg (by omega), if_neg (by omega)]
    have e2 : hiI o = 0 := by unfold hiI; rw [if_neg (by omega), if_neg (by omega), if_neg (by omega)]
    rw [e1, e2]
    have a1 : (o == 1) = false := by simp; omega
    have a2 : (o == 2) = false := by simp; omega
    have a4 : (o == 4) = false := by simp; omega
    have a5 : (o == 5) = false := by simp; omega
    have a15 : (o == 15) = false := by simp; omega
    have a16 : (o == 16) = false := by simp; omega
    clear h e1 e2
    go_enter Tryz.func61, Tryz.ntmps61
    go_wp2
    go_ret2
    exact ⟨rfl, rfl⟩

theorem numbered_any (o : Int) (b : Bool) (hb : Hid (numdI o = b)) (w : World) :
    Calls Tryz.prog 42 #[.int .i64 o] w fun e w' => e = .returned (.bool b) ∧ w' = w := by
  obtain ⟨x, hx⟩ : ∃ x, loI o = x := ⟨_, rfl⟩
  obtain ⟨y, hy⟩ : ∃ y, hiI o = y := ⟨_, rfl⟩
  have HR : Hid (∀ w, Calls Tryz.prog 61 #[.int .i64 o] w fun e w' => e = .returned (.tuple #[.int .i64 x, .int .i64 y]) ∧ w' = w) := hid fun w => by
    have := reach_any o w
    rw [hx, hy] at this
    exact this
  have hd : decide (0 < y) = b := by rw [← hy, ← hb.out]; rfl
  clear hx hy hb
  go_enter Tryz.func42, Tryz.ntmps42
  go_wp2_with fail
  refine (HR.out _).mono ?_
  rintro e w' ⟨rfl, rfl⟩
  go_wp2_with fail
  go_ret
  exact ⟨by rw [← hd]; rfl, rfl⟩

set_option maxHeartbeats 1000000 in
theorem cright_any (o a : Int) (b : Bool) (hb : Hid (rightI (o, a) = b)) (w : World) :
    Calls Tryz.prog 82 #[val o a] w fun e w' => e = .returned (.bool b) ∧ Below w.heap.size w w' := by
  have hB := (Below.refl _ w).alloc (Nat.le_refl _) (.cells #[.int .i64 o, .int .i64 a] 88)
  have HB := hid hB; clear hB
  by_cases h0 : o < 0
  · have e : b = false := by rw [← hb.out]; unfold rightI; simp; omega
    subst e
    clear hb
    go_enter Tryz.func82, Tryz.ntmps82
    go_wp2_with fail
    go_ret
    exact ⟨rfl, HB.out⟩
  by_cases h1 : 17 < o
  · have e : b = false := by rw [← hb.out]; unfold rightI; simp; omega
    subst e
    clear hb
    go_enter Tryz.func82, Tryz.ntmps82
    go_wp2_with fail
    go_ret
    exact ⟨rfl, HB.out⟩
  obtain ⟨x, hx⟩ : ∃ x, loI o = x := ⟨_, rfl⟩
  obtain ⟨y, hy⟩ : ∃ y, hiI o = y := ⟨_, rfl⟩
  have HR : Hid (∀ w, Calls Tryz.prog 61 #[.int .i64 o] w fun e w' => e = .returned (.tuple #[.int .i64 x, .int .i64 y]) ∧ w' = w) := hid fun w => by
    have := reach_any o w
    rw [hx, hy] at this
    exact this
  have he : (decide (x ≤ a) && decide (a ≤ y)) = b := by
    rw [← hb.out, ← hx, ← hy]; unfold rightI
    rw [decide_eq_true (show 0 ≤ o by omega), decide_eq_true (show o ≤ 17 by omega)]; simp
  have HE := hid he
  clear hx hy hb he
  by_cases h2 : x ≤ a
  · by_cases h3 : a ≤ y
    all_goals
      go_enter Tryz.func82, Tryz.ntmps82
      go_wp2_with fail
      refine (HR.out _).mono ?_
      rintro e w' ⟨rfl, rfl⟩
      go_wp2_with fail
      go_ret
      exact ⟨by rw [← HE.out]; simp [h2, h3], HB.out⟩
  · go_enter Tryz.func82, Tryz.ntmps82
    go_wp2_with fail
    refine (HR.out _).mono ?_
    rintro e w' ⟨rfl, rfl⟩
    go_wp2_with fail
    go_ret
    exact ⟨by rw [← HE.out]; simp; omega, HB.out⟩

theorem all_snoc {l : List (Int × Int)} {k : Nat} (hlt : k < l.length) (h : (l.take k).all rightI = true) (h2 : rightI (l.getD k (0, 0)) = true) : (l.take (k + 1)).all rightI = true := by
  rw [List.take_succ_eq_append_getElem hlt, List.all_append, h]
  rw [List.getD_eq_getElem?_getD, List.getElem?_eq_getElem hlt] at h2
  simpa using h2

theorem fits_not {l : List (Int × Int)} {k : Nat} (hlt : k < l.length) (h2 : rightI (l.getD k (0, 0)) = false) : l.all rightI = false := by
  rw [List.all_eq_false]
  refine ⟨l[k], List.getElem_mem hlt, ?_⟩
  rw [List.getD_eq_getElem?_getD, List.getElem?_eq_getElem hlt] at h2
  simpa using h2

theorem fits_long {l : List (Int × Int)} (h : 24 < l.length) : fitsL l = false := by
  unfold fitsL; rw [decide_eq_false (by omega)]; rfl

theorem fits_short {l : List (Int × Int)} (h : l.length ≤ 24) : fitsL l = l.all rightI := by
  unfold fitsL; rw [decide_eq_true h]; rfl

set_option maxHeartbeats 1000000 in
theorem fits_any (v : Value) (l : List (Int × Int)) (b : Bool) (hb : Hid (fitsL l = b)) (hl : l.length ≤ 1000000000000) (w : World) (hv : SlV w w.heap.size v l) :
    Calls Tryz.prog 64 #[v] w fun e w' => e = .returned (.bool b) ∧ Below w.heap.size w w' := by
  obtain ⟨A, c, rfl, hc, hA⟩ := hv
  have HA := hid hA; clear hA
  by_cases h24 : 24 < l.length
  · obtain rfl : false = b := by rw [← hb.out]; exact (fits_long h24).symm
    have d1 : decide ((24 : Int) < (l.length : Int)) = true := decide_eq_true (by omega)
    go_enter Tryz.func64, Tryz.ntmps64
    go_wp2_with fail
    go_ret
    exact ⟨rfl, Below.refl _ _⟩
  have d1 : decide ((24 : Int) < (l.length : Int)) = false := decide_eq_false (by omega)
  have HF : Hid (l.all rightI = b) := hid (by rw [← hb.out]; exact (fits_short (by omega)).symm)
  clear hb
  go_enter Tryz.func64, Tryz.ntmps64
  go_wp2_with fail
  clear d1
  go_loopw [10] (fun i wr => ∃ k : Nat, k ≤ l.length ∧ i = .int .i64 k ∧ Hid ((l.take k).all rightI = true) ∧ Hid (Below w.heap.size w wr)) (fun i _ => l.length - (intOf i).toNat)
  case atStart => exact ⟨0, Nat.zero_le _, rfl, hid (by simp), hid (Below.refl _ _)⟩
  case round =>
    obtain ⟨k, hk, rfl, hall, hbel⟩ := hrel
    by_cases hlt : k < l.length
    · obtain ⟨b1, o1, rfl, hbB, hcell⟩ := HA.out (by omega)
      obtain ⟨ca, cb⟩ := hcell k hlt
      obtain ⟨o, a, hoa⟩ := pair_of (p := l.getD k (0, 0))
      rw [hoa] at ca cb
      have HOA := hid hoa; clear hoa hcell
      have ca' := (hbel.out.cell (p := ⟨b1, o1 + k * 2, none⟩) hbB).trans ca
      have cb' := (hbel.out.cell (p := ⟨b1, o1 + k * 2 + 1, none⟩) hbB).trans cb
      clear ca cb
      have HB2 := hid (hbel.out.alloc hbel.out.size (.cells #[.int .i64 o, .int .i64 a] 88))
      cases hr : rightI (o, a) with
      | true =>
        have HR := hid hr; clear hr
        go_wp2_with fail
        refine (cright_any o a true HR _).mono ?_
        rintro e w2 ⟨rfl, hb2⟩
        have HB3 := hid (HB2.out.trans (hb2.mono HB2.out.size)); clear hb2
        go_wp2_with fail
        go_roundw
        case rel => exact ⟨k + 1, by omega, by go_num, hid (all_snoc hlt hall.out (by rw [HOA.out]; exact HR.out)), HB3⟩
        case measure => simp [intOf]; omega
      | false =>
        have HR := hid hr; clear hr
        go_wp2_with fail
        refine (cright_any o a false HR _).mono ?_
        rintro e w2 ⟨rfl, hb2⟩
        have HB3 := hid (HB2.out.trans (hb2.mono HB2.out.size)); clear hb2
        go_wp2_with fail
        go_ret
        exact ⟨by rw [← HF.out, fits_not hlt (by rw [HOA.out]; exact HR.out)]; rfl, HB3.out⟩
    · have HK : Hid (l.take k = l) := hid (List.take_of_length_le (by omega))
      go_wp2_with fail
      go_ret
      exact ⟨by rw [← HF.out, ← hall.out, HK.out]; rfl, hbel.out⟩

set_option maxHeartbeats 4000000 in
theorem refright_any (o a : Int) (b : Bool) (hb : Hid (rightI (o, a) = b)) (w : World) :
    Calls Tryz.prog 48 #[val o a] w fun e w' => e = .returned (.bool b) ∧ Below w.heap.size w w' := by
  have hB := (Below.refl _ w).alloc (Nat.le_refl _) (.cells #[.int .i64 o, .int .i64 a] 88)
  have HB := hid hB; clear hB
  by_cases h0 : o < 0
  · have e : b = false := by rw [← hb.out]; unfold rightI; simp; omega
    subst e
    clear hb
    go_enter Tryz.func48, Tryz.ntmps48
    go_wp2_with fail
    go_ret
    exact ⟨rfl, HB.out⟩
  by_cases h1 : 17 < o
  · have e : b = false := by rw [← hb.out]; unfold rightI; simp; omega
    subst e
    clear hb
    go_enter Tryz.func48, Tryz.ntmps48
    go_wp2_with fail
    go_ret
    exact ⟨rfl, HB.out⟩
  by_cases h : o = 1 ∨ o = 2 ∨ o = 15 ∨ o = 16
  · obtain ⟨x, hx⟩ : ∃ x, loI o = x := ⟨_, rfl⟩
    obtain ⟨y, hy⟩ : ∃ y, hiI o = y := ⟨_, rfl⟩
    have he : (decide (x ≤ a) && decide (a ≤ y)) = b := by
      rw [← hb.out, ← hx, ← hy]; unfold rightI
      rw [decide_eq_true (show 0 ≤ o by omega), decide_eq_true (show o ≤ 17 by omega)]; simp
    have HE := hid he
    clear hb he
    rcases h with rfl | rfl | rfl | rfl
    all_goals
      simp [loI] at hx
      simp [hiI] at hy
      subst hx; subst hy
      clear h0 h1
    · by_cases h2 : -524288 ≤ a
      · by_cases h3 : a ≤ 524287
        all_goals
          go_enter Tryz.func48, Tryz.ntmps48
          go_wp2_with fail
          go_ret
          exact ⟨by rw [← HE.out]; simp [h2, h3], HB.out⟩
      · go_enter Tryz.func48, Tryz.ntmps48
        go_wp2_with fail
        go_ret
        exact ⟨by rw [← HE.out]; simp; omega, HB.out⟩
    · by_cases h2 : -524288 ≤ a
      · by_cases h3 : a ≤ 524287
        all_goals
          go_enter Tryz.func48, Tryz.ntmps48
          go_wp2_with fail
          go_ret
          exact ⟨by rw [← HE.out]; simp [h2, h3], HB.out⟩
      · go_enter Tryz.func48, Tryz.ntmps48
        go_wp2_with fail
        go_ret
        exact ⟨by rw [← HE.out]; simp; omega, HB.out⟩
    · by_cases h2 : 1 ≤ a
      · by_cases h3 : a ≤ 24
        all_goals
          go_enter Tryz.func48, Tryz.ntmps48
          go_wp2_with fail
          go_ret
          exact ⟨by rw [← HE.out]; simp [h2, h3], HB.out⟩
      · go_enter Tryz.func48, Tryz.ntmps48
        go_wp2_with fail
        go_ret
        exact ⟨by rw [← HE.out]; simp; omega, HB.out⟩
    · by_cases h2 : 1 ≤ a
      · by_cases h3 : a ≤ 24
        all_goals
          go_enter Tryz.func48, Tryz.ntmps48
          go_wp2_with fail
          go_ret
          exact ⟨by rw [← HE.out]; simp [h2, h3], HB.out⟩
      · go_enter Tryz.func48, Tryz.ntmps48
        go_wp2_with fail
        go_ret
        exact ⟨by rw [← HE.out]; simp; omega, HB.out⟩
  have b1 : (o == 1) = false := by simp; omega
  have b2 : (o == 2) = false := by simp; omega
  have b15 : (o == 15) = false := by simp; omega
  have b16 : (o == 16) = false := by simp; omega
  have e1 : loI o = 0 := by unfold loI; rw [if_neg (by omega), if_neg (by omega)]
  by_cases h4 : o = 4 ∨ o = 5
  · have e2 : hiI o = 1 := by unfold hiI; rw [if_neg (by omega), if_pos h4]
    have he : (decide (0 ≤ a) && decide (a ≤ 1)) = b := by
      rw [← hb.out]; unfold rightI
      rw [e1, e2, decide_eq_true (show 0 ≤ o by omega), decide_eq_true (show o ≤ 17 by omega)]; simp
    have HE := hid he
    clear hb he e1 e2 h b1 b2 b15 b16
    rcases h4 with rfl | rfl
    all_goals
      clear h0 h1
      by_cases h2 : a = 0
      · subst h2
        go_enter Tryz.func48, Tryz.ntmps48
        go_wp2_with fail
        go_ret
        exact ⟨by rw [← HE.out]; rfl, HB.out⟩
      by_cases h3 : a = 1
      · subst h3
        go_enter Tryz.func48, Tryz.ntmps48
        go_wp2_with fail
        go_ret
        exact ⟨by rw [← HE.out]; rfl, HB.out⟩
      have c1 : (a == 0) = false := by simp; omega
      have c2 : (a == 1) = false := by simp; omega
      have HN : Hid (¬ (0 ≤ a ∧ a ≤ 1)) := hid (by omega)
      clear h2 h3
      go_enter Tryz.func48, Tryz.ntmps48
      go_wp2_with fail
      go_ret
      refine ⟨?_, HB.out⟩
      have h5 : (decide (0 ≤ a) && decide (a ≤ 1)) = false := by
        rw [Bool.eq_false_iff]
        intro h6
        rw [Bool.and_eq_true, decide_eq_true_eq, decide_eq_true_eq] at h6
        exact HN.out h6
      rw [← HE.out, h5]; rfl
  · have b4 : (o == 4) = false := by simp; omega
    have b5 : (o == 5) = false := by simp; omega
    have e2 : hiI o = 0 := by unfold hiI; rw [if_neg (by omega), if_neg (by omega), if_neg (by omega)]
    have he : (a == 0) = b := by
      rw [← hb.out]; unfold rightI
      rw [e1, e2, decide_eq_true (show 0 ≤ o by omega), decide_eq_true (show o ≤ 17 by omega)]
      simp only [Bool.true_and]
      rw [Bool.eq_iff_iff]
      simp
      omega
    have HE := hid he
    clear hb he e1 e2 h h4
    go_enter Tryz.func48, Tryz.ntmps48
    go_wp2_with fail
    go_ret
    exact ⟨by rw [← HE.out]; rfl, HB.out⟩

set_option maxHeartbeats 1000000 in
theorem reffits_any (v : Value) (l : List (Int × Int)) (b : Bool) (hb : Hid (fitsL l = b)) (hl : l.length ≤ 1000000000000) (w : World) (hv : SlV w w.heap.size v l) :
    Calls Tryz.prog 30 #[v] w fun e w' => e = .returned (.bool b) ∧ Below w.heap.size w w' := by
  obtain ⟨A, c, rfl, hc, hA⟩ := hv
  have HA := hid hA; clear hA
  go_enter Tryz.func30, Tryz.ntmps30
  go_wp2_with fail
  go_loopw [3] (fun i wr => ∃ k : Nat, k ≤ l.length ∧ i = .int .i64 k ∧ Hid ((l.take k).all rightI = true) ∧ Hid (Below w.heap.size w wr)) (fun i _ => l.length - (intOf i).toNat)
  case atStart => exact ⟨0, Nat.zero_le _, rfl, hid (by simp), hid (Below.refl _ _)⟩
  case round =>
    obtain ⟨k, hk, rfl, hall, hbel⟩ := hrel
    by_cases hlt : k < l.length
    · obtain ⟨b1, o1, rfl, hbB, hcell⟩ := HA.out (by omega)
      obtain ⟨ca, cb⟩ := hcell k hlt
      obtain ⟨o, a, hoa⟩ := pair_of (p := l.getD k (0, 0))
      rw [hoa] at ca cb
      have HOA := hid hoa; clear hoa hcell
      have ca' := (hbel.out.cell (p := ⟨b1, o1 + k * 2, none⟩) hbB).trans ca
      have cb' := (hbel.out.cell (p := ⟨b1, o1 + k * 2 + 1, none⟩) hbB).trans cb
      clear ca cb
      cases hr : rightI (o, a) with
      | true =>
        have HR := hid hr; clear hr
        go_wp2_with fail
        refine (refright_any o a true HR _).mono ?_
        rintro e w2 ⟨rfl, hb2⟩
        have HB3 := hid (hbel.out.trans (hb2.mono hbel.out.size)); clear hb2
        go_wp2_with fail
        go_roundw
        case rel => exact ⟨k + 1, by omega, by go_num, hid (all_snoc hlt hall.out (by rw [HOA.out]; exact HR.out)), HB3⟩
        case measure => simp [intOf]; omega
      | false =>
        have HR := hid hr; clear hr
        go_wp2_with fail
        refine (refright_any o a false HR _).mono ?_
        rintro e w2 ⟨rfl, hb2⟩
        have HB3 := hid (hbel.out.trans (hb2.mono hbel.out.size)); clear hb2
        go_wp2_with fail
        go_ret
        refine ⟨?_, HB3.out⟩
        have h5 : fitsL l = false := by unfold fitsL; rw [fits_not hlt (by rw [HOA.out]; exact HR.out)]; simp
        rw [← hb.out, h5]; rfl
    · have HK : Hid (l.take k = l) := hid (List.take_of_length_le (by omega))
      have HD : Hid (decide ((l.length : Int) ≤ 24) = b) := hid (by
        have h6 := hall.out
        rw [HK.out] at h6
        rw [← hb.out]; unfold fitsL; rw [h6, Bool.and_true]
        rw [Bool.eq_iff_iff]; simp; omega)
      go_wp2_with fail
      go_ret
      exact ⟨by rw [← HD.out]; rfl, hbel.out⟩

end Go.Proofs.YtfhlpbjdcdagjaaGreatDoor

namespace Go.Proofs.YtfhlpbjdcdagjaaGreatDoor
open Go.RowKit
set_option linter.unusedVariables false
set_option maxRecDepth 100000

/-- What is gone through: its own block b, the depths' bD, the emits' bE, the effects' bM. -/
structure WkAt (w : World) (b bD bE bM : Nat) (A : Option Addr) (c : Nat) (s : CkS) : Prop where
  lA : 0 < s.D.length → A = some ⟨bD, 0, none⟩
  lE : s.E.length = s.D.length
  c0 : w.cell? ⟨b, 0, none⟩ = some (.slice A s.D.length c)
  c1 : w.cell? ⟨b, 1, none⟩ = some (.int .i64 s.mx)
  c2 : w.cell? ⟨b, 2, none⟩ = some (.int .i64 s.em)
  c3 : w.cell? ⟨b, 3, none⟩ = some (.bool s.u0)
  c4 : w.cell? ⟨b, 4, none⟩ = some (.bool s.u1)
  c5 : w.cell? ⟨b, 5, none⟩ = some (.map (some bM))
  c6 : w.cell? ⟨b, 6, none⟩ = some (.slice (some ⟨bE, 0, none⟩) s.D.length s.D.length)
  f : ∀ j, w.frozen? ⟨b, j, none⟩ = false
  cD : ∀ j, j < s.D.length → w.cell? ⟨bD, j, none⟩ = some (.int .i64 (s.D.getD j 0))
  fD : ∀ j, j < s.D.length → w.frozen? ⟨bD, j, none⟩ = false
  cE : ∀ j, j < s.D.length → w.cell? ⟨bE, j, none⟩ = some (.int .i64 (s.E.getD j 0))
  fE : ∀ j, j < s.D.length → w.frozen? ⟨bE, j, none⟩ = false
  nD : b ≠ bD
  nE : b ≠ bE
  nDE : bD ≠ bE
  m : EffAt w bM
  mb : bM ≠ b
  mD : bM ≠ bD
  mE : bM ≠ bE
  hc : s.D.length ≤ c

section
variable {w w' : World} {b bD bE bM c : Nat} {A : Option Addr} {s : CkS}

theorem WkAt.lt (h : WkAt w b bD bE bM A c s) : b < w.heap.size := World.block_lt_of_cell? w _ h.c1

/-- All cells and marks stay. -/
theorem WkAt.keep (h : WkAt w b bD bE bM A c s) (hc : ∀ x o, x = b ∨ x = bE ∨ (x = bD ∧ 0 < s.D.length) → w'.cell? ⟨x, o, none⟩ = w.cell? ⟨x, o, none⟩ ∧ w'.frozen? ⟨x, o, none⟩ = w.frozen? ⟨x, o, none⟩) (hm : w'.heap[bM]? = w.heap[bM]?) : WkAt w' b bD bE bM A c s where
  lA := h.lA
  lE := h.lE
  c0 := ((hc _ _ (.inl rfl)).1).trans h.c0
  c1 := ((hc _ _ (.inl rfl)).1).trans h.c1
  c2 := ((hc _ _ (.inl rfl)).1).trans h.c2
  c3 := ((hc _ _ (.inl rfl)).1).trans h.c3
  c4 := ((hc _ _ (.inl rfl)).1).trans h.c4
  c5 := ((hc _ _ (.inl rfl)).1).trans h.c5
  c6 := ((hc _ _ (.inl rfl)).1).trans h.c6
  f j := ((hc _ _ (.inl rfl)).2).trans (h.f j)
  cD j hj := ((hc _ _ (.inr (.inr ⟨rfl, by omega⟩))).1).trans (h.cD j hj)
  fD j hj := ((hc _ _ (.inr (.inr ⟨rfl, by omega⟩))).2).trans (h.fD j hj)
  cE j hj := ((hc _ _ (.inr (.inl rfl))).1).trans (h.cE j hj)
  fE j hj := ((hc _ _ (.inr (.inl rfl))).2).trans (h.fE j hj)
  nD := h.nD
  nE := h.nE
  nDE := h.nDE
  m := h.m.keep hm
  mb := h.mb
  mD := h.mD
  mE := h.mE
  hc := h.hc

theorem WkAt.ltE (h : WkAt w b bD bE bM A c s) (hn : 0 < s.D.length) : bE < w.heap.size := World.block_lt_of_cell? w _ (h.cE 0 hn)
theorem WkAt.ltD (h : WkAt w b bD bE bM A c s) (hn : 0 < s.D.length) : bD < w.heap.size := World.block_lt_of_cell? w _ (h.cD 0 hn)
end

theorem target_any (k : Nat) (o a : Int) (w : World) (hk : k ≤ 1000) (h0 : 0 ≤ a) (h1 : a ≤ 1000000) :
    Calls Tryz.prog 143 #[.int .i64 k, val o a] w fun e w' => e = .returned (.int .i64 (k + 1 + a)) ∧ Below w.heap.size w w' := by
  go_enter Tryz.func143, Tryz.ntmps143
  go_wp2_with fail
  go_ret
  exact ⟨rfl, (Below.refl _ _).alloc (Nat.le_refl _) _⟩

/-- A slice of integers in a block that is new. -/
def NewI (w : World) (B : Nat) (v : Value) (zs : List Int) : Prop :=
  ∃ A, v = .slice A zs.length zs.length ∧ (0 < zs.length → ∃ g, A = some ⟨g, 0, none⟩ ∧ B ≤ g ∧ ∀ j, j < zs.length → w.cell? ⟨g, j, none⟩ = some (.int .i64 (zs.getD j 0)))

theorem NewI.new (w : World) (B : Nat) (h : B ≤ w.heap.size) (zs : List Int) (t : TypeId) :
    NewI (w.alloc (.cells (zs.map (Value.int .i64)).toArray t)) B (.slice (some ⟨w.heap.size, 0, none⟩) zs.length zs.length) zs := by
  refine ⟨_, rfl, fun _ => ⟨_, rfl, h, fun j hj => ?_⟩⟩
  simp [World.cell?_alloc_new, hj]

theorem SlI.new' (w : World) (k : IntKind) (zs : List Int) (t : TypeId) :
    SlI (w.alloc (.cells (zs.map (Value.int k)).toArray t)) (w.alloc (.cells (zs.map (Value.int k)).toArray t)).heap.size k (.slice (some ⟨w.heap.size, 0, none⟩) zs.length zs.length) zs := by
  rw [World.size_alloc]; exact SlI.new w k zs t

def natI (l : List Nat) : List Int := l.map fun (t : Nat) => (t : Int)

set_option maxHeartbeats 1000000 in
theorem next_any (k : Nat) (o a : Int) (w : World) (hk : k ≤ 1000) (h0 : o = 15 ∨ o = 16 → 0 ≤ a ∧ a ≤ 1000000) :
    Calls Tryz.prog 132 #[.int .i64 k, val o a] w fun e w' => ∃ v, e = .returned v ∧ NewI w' w.heap.size v (natI (nextN k o a)) ∧ Below w.heap.size w w' := by
  have HW := hid ((Below.refl _ w).alloc (Nat.le_refl _) (.cells #[.int .i64 o, .int .i64 a] 88))
  by_cases e0 : o = 0
  · subst e0
    go_enter Tryz.func132, Tryz.ntmps132
    go_wp2_with fail
    go_ret
    exact ⟨_, rfl, ⟨_, rfl, fun h => absurd h (by simp [natI, nextN])⟩, HW.out⟩
  have n0 : (o == 0) = false := by simpa using e0
  by_cases e15 : o = 15
  · subst e15
    obtain ⟨a0, a1⟩ := h0 (.inl rfl)
    have HN : Hid (natI (nextN k 15 a) = [(k : Int) + 1, (k : Int) + 1 + a]) := hid (by simp [natI, nextN]; omega)
    clear h0 e0 n0
    go_enter Tryz.func132, Tryz.ntmps132
    go_wp2_with fail
    refine (target_any k 15 a _ hk a0 a1).mono ?_
    rintro e w1 ⟨rfl, hb⟩
    have HB := hid (HW.out.trans (hb.mono HW.out.size)); clear hb HW
    go_wp2_with fail
    go_ret
    refine ⟨_, rfl, ?_, HB.out.alloc HB.out.size _⟩
    rw [HN.out]
    exact NewI.new w1 w.heap.size HB.out.size [(k : Int) + 1, (k : Int) + 1 + a] 3
  have n15 : (o == 15) = false := by simpa using e15
  by_cases e16 : o = 16
  · subst e16
    obtain ⟨a0, a1⟩ := h0 (.inr rfl)
    have HN : Hid (natI (nextN k 16 a) = [(k : Int) + 1 + a]) := hid (by simp [natI, nextN]; omega)
    clear h0 e0 n0 e15 n15
    go_enter Tryz.func132, Tryz.ntmps132
    go_wp2_with fail
    refine (target_any k 16 a _ hk a0 a1).mono ?_
    rintro e w1 ⟨rfl, hb⟩
    have HB := hid (HW.out.trans (hb.mono HW.out.size)); clear hb HW
    go_wp2_with fail
    go_ret
    refine ⟨_, rfl, ?_, HB.out.alloc HB.out.size _⟩
    rw [HN.out]
    exact NewI.new w1 w.heap.size HB.out.size [(k : Int) + 1 + a] 3
  have n16 : (o == 16) = false := by simpa using e16
  have HN : Hid (natI (nextN k o a) = [(k : Int) + 1]) := hid (by unfold nextN; rw [if_neg e0, if_neg e15, if_neg e16]; simp [natI])
  clear h0 e0 e15 e16
  go_enter Tryz.func132, Tryz.ntmps132
  go_wp2_with fail
  go_ret
  refine ⟨_, rfl, ?_, HW.out.alloc HW.out.size _⟩
  rw [HN.out]
  have := NewI.new (w.alloc (.cells #[.int .i64 o, .int .i64 a] 88)) w.heap.size (by simp) [(k : Int) + 1] 3
  rw [World.size_alloc (w := w)] at this
  exact this

end Go.Proofs.YtfhlpbjdcdagjaaGreatDoor

namespace Go.Proofs.YtfhlpbjdcdagjaaGreatDoor
open Go.RowKit
set_option linter.unusedVariables false
set_option maxRecDepth 100000

theorem comeB_beyond {s : CkS} {t : Nat} (d e : Int) (h : s.D.length ≤ t) : comeB s t d e = true ∧ comeS s t d e = s := by
  unfold comeB comeS
  rw [if_pos h, if_pos h]
  exact ⟨rfl, rfl⟩

theorem come_new {s : CkS} {t : Nat} {d e m : Int} (h : t < s.D.length) (hx : s.D.getD t 0 = -1) (hm : max (s.E.getD t 0) e = m) : comeB s t d e = true ∧ comeS s t d e = { s with D := s.D.set t d, E := s.E.set t m } := by
  refine ⟨(comeB_iff s t d e).2 fun _ => .inl hx, ?_⟩
  unfold comeS
  rw [if_neg (by omega), if_pos hx, hm]

theorem come_old {s : CkS} {t : Nat} {d e m x : Int} (h : t < s.D.length) (hx : s.D.getD t 0 = x) (h1 : x ≠ -1) (hm : max (s.E.getD t 0) e = m) : comeB s t d e = (x == d) ∧ comeS s t d e = { s with E := s.E.set t m } := by
  subst hx
  refine ⟨?_, ?_⟩
  · rw [Bool.eq_iff_iff, comeB_iff]
    simp only [beq_iff_eq]
    constructor
    · intro q
      rcases q h with q | q
      · exact absurd q h1
      · exact q
    · exact fun q _ => .inr q
  · unfold comeS
    rw [if_neg (by omega), if_neg h1, hm]

section
variable {w : World} {b bD bE bM c : Nat} {A : Option Addr} {s : CkS}

/-- One depth is written. -/
theorem WkAt.setD (h : WkAt w b bD bE bM A c s) {t : Nat} (ht : t < s.D.length) (d : Int) : WkAt (w.setCell ⟨bD, t, none⟩ (.int .i64 d)) b bD bE bM A c { s with D := s.D.set t d } := by
  have nD := h.nD; have nDE := h.nDE; have mD := h.mD
  have o1 : ∀ j, (w.setCell ⟨bD, t, none⟩ (.int .i64 d)).cell? ⟨b, j, none⟩ = w.cell? ⟨b, j, none⟩ := fun j => World.cell?_setCell_other _ _ _ _ (by intro e; injection e with e1; exact nD e1.symm)
  have o2 : ∀ j, (w.setCell ⟨bD, t, none⟩ (.int .i64 d)).cell? ⟨bE, j, none⟩ = w.cell? ⟨bE, j, none⟩ := fun j => World.cell?_setCell_other _ _ _ _ (by intro e; injection e with e1; exact nDE e1)
  refine ⟨fun q => h.lA (by simpa using q), by simpa using h.lE, ?_, (o1 _).trans h.c1, (o1 _).trans h.c2, (o1 _).trans h.c3, (o1 _).trans h.c4, (o1 _).trans h.c5, ?_, fun j => by rw [World.frozen?_setCell]; exact h.f j, fun j hj => ?_, fun j hj => ?_, fun j hj => ?_, fun j hj => ?_, nD, h.nE, nDE, h.m.setCell mD _, h.mb, mD, h.mE, by simpa using h.hc⟩
  · rw [o1]; simpa using h.c0
  · rw [o1]; simpa using h.c6
  · have hj' : j < s.D.length := by simpa using hj
    simp only
    rw [getD_set]
    by_cases hjt : j = t
    · subst hjt
      rw [if_pos ⟨rfl, ht⟩, World.cell?_setCell_same _ _ _ (h.cD j ht)]
    · rw [if_neg (fun q => hjt q.1), World.cell?_setCell_other _ _ _ _ (by intro e; injection e with e1 e2; exact hjt (by omega))]
      exact h.cD j hj'
  · rw [World.frozen?_setCell]; exact h.fD j (by simpa using hj)
  · rw [o2]; exact h.cE j (by simpa using hj)
  · rw [World.frozen?_setCell]; exact h.fE j (by simpa using hj)

/-- What was put out on a way is written. -/
theorem WkAt.setE (h : WkAt w b bD bE bM A c s) {t : Nat} (ht : t < s.D.length) (d : Int) : WkAt (w.setCell ⟨bE, t, none⟩ (.int .i64 d)) b bD bE bM A c { s with E := s.E.set t d } := by
  have nE := h.nE; have nDE := h.nDE; have mE := h.mE
  have o1 : ∀ j, (w.setCell ⟨bE, t, none⟩ (.int .i64 d)).cell? ⟨b, j, none⟩ = w.cell? ⟨b, j, none⟩ := fun j => World.cell?_setCell_other _ _ _ _ (by intro e; injection e with e1; exact nE e1.symm)
  have o2 : ∀ j, (w.setCell ⟨bE, t, none⟩ (.int .i64 d)).cell? ⟨bD, j, none⟩ = w.cell? ⟨bD, j, none⟩ := fun j => World.cell?_setCell_other _ _ _ _ (by intro e; injection e with e1; exact nDE e1.symm)
  refine ⟨h.lA, by simpa using h.lE, (o1 _).trans h.c0, (o1 _).trans h.c1, (o1 _).trans h.c2, (o1 _).trans h.c3, (o1 _).trans h.c4, (o1 _).trans h.c5, (o1 _).trans h.c6, fun j => by rw [World.frozen?_setCell]; exact h.f j, fun j hj => ?_, fun j hj => ?_, fun j hj => ?_, fun j hj => ?_, h.nD, nE, nDE, h.m.setCell mE _, h.mb, h.mD, mE, h.hc⟩
  · rw [o2]; exact h.cD j hj
  · rw [World.frozen?_setCell]; exact h.fD j hj
  · simp only
    rw [getD_set, h.lE]
    by_cases hjt : j = t
    · subst hjt
      rw [if_pos ⟨rfl, ht⟩, World.cell?_setCell_same _ _ _ (h.cE j ht)]
    · rw [if_neg (fun q => hjt q.1), World.cell?_setCell_other _ _ _ _ (by intro e; injection e with e1 e2; exact hjt (by omega))]
      exact h.cE j hj
  · rw [World.frozen?_setCell]; exact h.fE j hj

theorem WkAt.heap {w' : World} (h : WkAt w b bD bE bM A c s) (e : w'.heap = w.heap) : WkAt w' b bD bE bM A c s :=
  h.keep (fun x o _ => ⟨World.cell?_of_block (by rw [e]), World.frozen?_of_block (by rw [e])⟩) (by rw [e])
end

theorem one_other (w : World) {x p : Nat} (i : Nat) (v : Value) {j : Nat} (h : x ≠ p) : (w.setCell ⟨p, i, none⟩ v).drew.cell? ⟨x, j, none⟩ = w.cell? ⟨x, j, none⟩ := by
  show (w.setCell ⟨p, i, none⟩ v).cell? ⟨x, j, none⟩ = _
  exact World.cell?_setCell_other _ _ _ _ (by intro e; injection e with e1; exact h e1.symm)

theorem two_other (w : World) {x p q : Nat} (i j : Nat) (v u : Value) {m : Nat} (h : x ≠ p) (h' : x ≠ q) : ((w.setCell ⟨p, i, none⟩ v).setCell ⟨q, j, none⟩ u).drew.cell? ⟨x, m, none⟩ = w.cell? ⟨x, m, none⟩ := by
  show ((w.setCell ⟨p, i, none⟩ v).setCell ⟨q, j, none⟩ u).cell? ⟨x, m, none⟩ = _
  rw [World.cell?_setCell_other _ _ _ _ (by intro e; injection e with e1; exact h' e1.symm), World.cell?_setCell_other _ _ _ _ (by intro e; injection e with e1; exact h e1.symm)]

set_option maxHeartbeats 2000000 in
theorem come_any (b bD bE bM c : Nat) (A : Option Addr) (s : CkS) (t : Nat) (d e : Int) (w : World) (h : WkAt w b bD bE bM A c s) (ht : t ≤ 1000000000) :
    Calls Tryz.prog 131 #[.pointer (some ⟨b, 0, none⟩), .int .i64 t, .int .i64 d, .int .i64 e] w fun r w' => r = .returned (.bool (comeB s t d e)) ∧ WkAt w' b bD bE bM A c (comeS s t d e) ∧ (∀ B, B ≤ bD → B ≤ bE → B ≤ w.heap.size → Below B w w') ∧ ∀ x o, x ≠ bD → x ≠ bE → w'.cell? ⟨x, o, none⟩ = w.cell? ⟨x, o, none⟩ := by
  by_cases hlt : t < s.D.length
  · obtain rfl := h.lA (by omega)
    have nDE := h.nDE; have nD := h.nD; have nE := h.nE
    have c0 := h.c0; have c6 := h.c6
    have d0 := h.cD t hlt; have g0 := h.fD t hlt
    have e0 := h.cE t hlt; have k0 := h.fE t hlt
    obtain ⟨n, hn⟩ : ∃ n, s.D.length = n := ⟨_, rfl⟩
    obtain ⟨x, hx⟩ : ∃ x, s.D.getD t 0 = x := ⟨_, rfl⟩
    obtain ⟨y, hy⟩ : ∃ y, s.E.getD t 0 = y := ⟨_, rfl⟩
    have HH := hid h; clear h
    have HLT : Hid (t < s.D.length) := hid hlt
    rw [hx] at d0; rw [hy] at e0; rw [hn] at c0 c6 hlt
    have HN := hid hn; have HX := hid hx; have HY := hid hy; clear hn hx hy
    have hcc := HH.out.hc
    rw [HN.out] at hcc
    by_cases h1 : x = -1
    · subst h1
      go_enter Tryz.func131, Tryz.ntmps131
      go_wp2_with fail
      go_region
      go_wp2_with fail
      all_goals
        have HM := hid h; clear h
        go_ret
      · obtain ⟨q1, q2⟩ := come_new (d := d) (e := e) (m := e) HLT.out HX.out (by rw [HY.out]; exact Int.max_eq_right (by have := HM.out; omega))
        rw [q1, q2]
        exact ⟨rfl, ((HH.out.setD HLT.out d).setE (by simpa using HLT.out) e).heap rfl, fun B h1 h2 h3 => (((Below.refl _ w).setCell h1 _).setCell h2 _).drew, fun z i n1 n2 => two_other w _ _ _ _ n1 n2⟩
      · obtain ⟨q1, q2⟩ := come_new (d := d) (e := e) (m := y) HLT.out HX.out (by rw [HY.out]; exact Int.max_eq_left (by have := HM.out; omega))
        rw [q1, q2]
        exact ⟨rfl, ((HH.out.setD HLT.out d).setE (by simpa using HLT.out) y).heap rfl, fun B h1 h2 h3 => (((Below.refl _ w).setCell h1 _).setCell h2 _).drew, fun z i n1 n2 => two_other w _ _ _ _ n1 n2⟩
    · have hx1 : (x == -1) = false := by simpa using h1
      have HX1 := hid h1; clear h1
      go_enter Tryz.func131, Tryz.ntmps131
      go_wp2_with fail
      clear hx1
      go_region
      go_wp2_with fail
      all_goals
        have HM := hid h; clear h
        go_ret
      · obtain ⟨q1, q2⟩ := come_old (d := d) (e := e) (m := e) HLT.out HX.out HX1.out (by rw [HY.out]; exact Int.max_eq_right (by have := HM.out; omega))
        rw [q1, q2]
        exact ⟨rfl, (HH.out.setE HLT.out e).heap rfl, fun B h1 h2 h3 => ((Below.refl _ w).setCell h2 _).drew, fun z i n1 n2 => one_other w _ _ n2⟩
      · obtain ⟨q1, q2⟩ := come_old (d := d) (e := e) (m := y) HLT.out HX.out HX1.out (by rw [HY.out]; exact Int.max_eq_left (by have := HM.out; omega))
        rw [q1, q2]
        exact ⟨rfl, (HH.out.setE HLT.out y).heap rfl, fun B h1 h2 h3 => ((Below.refl _ w).setCell h2 _).drew, fun z i n1 n2 => one_other w _ _ n2⟩
  · obtain ⟨e1, e2⟩ := comeB_beyond (s := s) d e (t := t) (by omega)
    rw [e1, e2]
    have c0 := h.c0
    have HH := hid h; clear h e1 e2
    have hlt' : s.D.length ≤ t := by omega
    obtain ⟨n, hn⟩ : ∃ n, s.D.length = n := ⟨_, rfl⟩
    rw [hn] at c0 hlt'
    clear hn hlt
    go_enter Tryz.func131, Tryz.ntmps131
    go_wp2_with fail
    go_ret
    exact ⟨rfl, HH.out, fun B _ _ _ => Below.refl _ _, fun z i _ _ => rfl⟩

end Go.Proofs.YtfhlpbjdcdagjaaGreatDoor
