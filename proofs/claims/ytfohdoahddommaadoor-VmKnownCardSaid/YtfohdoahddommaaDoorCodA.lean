/- Layer 4, code: what may be, the program's answers and the document's: a contract for each function. -/
import Derived.Test.YtfohdoahddommaaDoorCodR
import Derived.Deep.QuietTactic
import Derived.BigQuiet
namespace Go.Proofs.YtfohdoahddommaaDoor
open Go.RowKit
set_option linter.unusedVariables false
set_option maxRecDepth 100000

theorem hi_neg (o : Int) (h : numdI o = false) : hiI o = 0 := by
  have hh : ¬ (numdI o = true) := by rw [h]; simp
  rw [numdI_iff] at hh
  unfold hiI; rw [if_neg (by omega), if_neg (by omega), if_neg (by omega)]

theorem reach_any (o : Int) (w : World) :
    Calls Tryd.prog 40 #[.int .i64 o] w fun e w' => e = .returned (.tuple #[.int .i64 (loI o), .int .i64 (hiI o)]) ∧ w' = w := by
  by_cases h : o = 1 ∨ o = 2 ∨ o = 4 ∨ o = 5 ∨ o = 15 ∨ o = 16
  · rcases h with rfl | rfl | rfl | rfl | rfl | rfl
    all_goals
      go_enter Tryd.func40, Tryd.ntmps40
      go_wp2
      go_ret2
      exact ⟨rfl, rfl⟩
  · have e1 : loI o = 0 := by unfold loI; rw [if_neg (by omega), if_neg (by omega)]
    have e2 : hiI o = 0 := by unfold hiI; rw [if_neg (by omega), if_neg (by omega), if_neg (by omega)]
    rw [e1, e2]
    have a1 : (o == 1) = false := by simp; omega
    have a2 : (o == 2) = false := by simp; omega
    have a4 : (o == 4) = false := by simp; omega
    have a5 : (o == 5) = false := by simp; omega
    have a15 : (o == 15) = false := by simp; omega
    have a16 : (o == 16) = false := by simp; omega
    clear h e1 e2
    go_enter Tryd.func40, Tryd.ntmps40
    go_wp2
    go_ret2
    exact ⟨rfl, rfl⟩

theorem numbered_any (o : Int) (b : Bool) (hb : Hid (numdI o = b)) (w : World) :
    Calls Tryd.prog 26 #[.int .i64 o] w fun e w' => e = .returned (.bool b) ∧ w' = w := by
  obtain ⟨x, hx⟩ : ∃ x, loI o = x := ⟨_, rfl⟩
  obtain ⟨y, hy⟩ : ∃ y, hiI o = y := ⟨_, rfl⟩
  have HR : Hid (∀ w, Calls Tryd.prog 40 #[.int .i64 o] w fun e w' => e = .returned (.tuple #[.int .i64 x, .int .i64 y]) ∧ w' = w) := hid fun w => by
    have := reach_any o w
    rw [hx, hy] at this
    exact this
  have hd : decide (0 < y) = b := by rw [← hy, ← hb.out]; rfl
  clear hx hy hb
  go_enter Tryd.func26, Tryd.ntmps26
  go_wp2_with fail
  refine (HR.out _).mono ?_
  rintro e w' ⟨rfl, rfl⟩
  go_wp2_with fail
  go_ret
  exact ⟨by rw [← hd]; rfl, rfl⟩

set_option maxHeartbeats 1000000 in
theorem cright_any (o a : Int) (b : Bool) (hb : Hid (rightI (o, a) = b)) (w : World) :
    Calls Tryd.prog 62 #[val o a] w fun e w' => e = .returned (.bool b) ∧ Below w.heap.size w w' := by
  have hB := (Below.refl _ w).alloc (Nat.le_refl _) (.cells #[.int .i64 o, .int .i64 a] 37)
  have HB := hid hB; clear hB
  by_cases h0 : o < 0
  · have e : b = false := by rw [← hb.out]; unfold rightI; simp; omega
    subst e
    clear hb
    go_enter Tryd.func62, Tryd.ntmps62
    go_wp2_with fail
    go_ret
    exact ⟨rfl, HB.out⟩
  by_cases h1 : 17 < o
  · have e : b = false := by rw [← hb.out]; unfold rightI; simp; omega
    subst e
    clear hb
    go_enter Tryd.func62, Tryd.ntmps62
    go_wp2_with fail
    go_ret
    exact ⟨rfl, HB.out⟩
  obtain ⟨x, hx⟩ : ∃ x, loI o = x := ⟨_, rfl⟩
  obtain ⟨y, hy⟩ : ∃ y, hiI o = y := ⟨_, rfl⟩
  have HR : Hid (∀ w, Calls Tryd.prog 40 #[.int .i64 o] w fun e w' => e = .returned (.tuple #[.int .i64 x, .int .i64 y]) ∧ w' = w) := hid fun w => by
    have := reach_any o w
    rw [hx, hy] at this
    exact this
  have he : (decide (x ≤ a) && decide (a ≤ y)) = b := by
    rw [← hb.out, ← hx, ← hy]; unfold rightI
    rw [decide_eq_true (show 0 ≤ o by omega), decide_eq_true (show o ≤ 17 by omega)]; simp
  have HE := hid he
  clear hx hy hb he
  by_cases h2 : x ≤ a
  · by_cases h3 : a ≤ y
    all_goals
      go_enter Tryd.func62, Tryd.ntmps62
      go_wp2_with fail
      refine (HR.out _).mono ?_
      rintro e w' ⟨rfl, rfl⟩
      go_wp2_with fail
      go_ret
      exact ⟨by rw [← HE.out]; simp [h2, h3], HB.out⟩
  · go_enter Tryd.func62, Tryd.ntmps62
    go_wp2_with fail
    refine (HR.out _).mono ?_
    rintro e w' ⟨rfl, rfl⟩
    go_wp2_with fail
    go_ret
    exact ⟨by rw [← HE.out]; simp; omega, HB.out⟩

theorem all_snoc {l : List (Int × Int)} {k : Nat} (hlt : k < l.length) (h : (l.take k).all rightI = true) (h2 : rightI (l.getD k (0, 0)) = true) : (l.take (k + 1)).all rightI = true := by
  rw [List.take_succ_eq_append_getElem hlt, List.all_append, h]
  rw [List.getD_eq_getElem?_getD, List.getElem?_eq_getElem hlt] at h2
  simpa using h2

theorem fits_not {l : List (Int × Int)} {k : Nat} (hlt : k < l.length) (h2 : rightI (l.getD k (0, 0)) = false) : l.all rightI = false := by
  rw [List.all_eq_false]
  refine ⟨l[k], List.getElem_mem hlt, ?_⟩
  rw [List.getD_eq_getElem?_getD, List.getElem?_eq_getElem hlt] at h2
  simpa using h2

theorem fits_long {l : List (Int × Int)} (h : 24 < l.length) : fitsL l = false := by
  unfold fitsL; rw [decide_eq_false (by omega)]; rfl

theorem fits_short {l : List (Int × Int)} (h : l.length ≤ 24) : fitsL l = l.all rightI := by
  unfold fitsL; rw [decide_eq_true h]; rfl

set_option maxHeartbeats 1000000 in
theorem fits_any (v : Value) (l : List (Int × Int)) (b : Bool) (hb : Hid (fitsL l = b)) (hl : l.length ≤ 1000000000000) (w : World) (hv : SlV w w.heap.size v l) :
    Calls Tryd.prog 43 #[v] w fun e w' => e = .returned (.bool b) ∧ Below w.heap.size w w' := by
  obtain ⟨A, c, rfl, hc, hA⟩ := hv
  have HA := hid hA; clear hA
  by_cases h24 : 24 < l.length
  · obtain rfl : false = b := by rw [← hb.out]; exact (fits_long h24).symm
    have d1 : decide ((24 : Int) < (l.length : Int)) = true := decide_eq_true (by omega)
    go_enter Tryd.func43, Tryd.ntmps43
    go_wp2_with fail
    go_ret
    exact ⟨rfl, Below.refl _ _⟩
  have d1 : decide ((24 : Int) < (l.length : Int)) = false := decide_eq_false (by omega)
  have HF : Hid (l.all rightI = b) := hid (by rw [← hb.out]; exact (fits_short (by omega)).symm)
  clear hb
  go_enter Tryd.func43, Tryd.ntmps43
  go_wp2_with fail
  clear d1
  go_loopw [10] (fun i wr => ∃ k : Nat, k ≤ l.length ∧ i = .int .i64 k ∧ Hid ((l.take k).all rightI = true) ∧ Hid (Below w.heap.size w wr)) (fun i _ => l.length - (intOf i).toNat)
  case atStart => exact ⟨0, Nat.zero_le _, rfl, hid (by simp), hid (Below.refl _ _)⟩
  case round =>
    obtain ⟨k, hk, rfl, hall, hbel⟩ := hrel
    by_cases hlt : k < l.length
    · obtain ⟨b1, o1, rfl, hbB, hcell⟩ := HA.out (by omega)
      obtain ⟨ca, cb⟩ := hcell k hlt
      obtain ⟨o, a, hoa⟩ := pair_of (p := l.getD k (0, 0))
      rw [hoa] at ca cb
      have HOA := hid hoa; clear hoa hcell
      have ca' := (hbel.out.cell (p := ⟨b1, o1 + k * 2, none⟩) hbB).trans ca
      have cb' := (hbel.out.cell (p := ⟨b1, o1 + k * 2 + 1, none⟩) hbB).trans cb
      clear ca cb
      have HB2 := hid (hbel.out.alloc hbel.out.size (.cells #[.int .i64 o, .int .i64 a] 37))
      cases hr : rightI (o, a) with
      | true =>
        have HR := hid hr; clear hr
        go_wp2_with fail
        refine (cright_any o a true HR _).mono ?_
        rintro e w2 ⟨rfl, hb2⟩
        have HB3 := hid (HB2.out.trans (hb2.mono HB2.out.size)); clear hb2
        go_wp2_with fail
        go_roundw
        case rel => exact ⟨k + 1, by omega, by go_num, hid (all_snoc hlt hall.out (by rw [HOA.out]; exact HR.out)), HB3⟩
        case measure => simp [intOf]; omega
      | false =>
        have HR := hid hr; clear hr
        go_wp2_with fail
        refine (cright_any o a false HR _).mono ?_
        rintro e w2 ⟨rfl, hb2⟩
        have HB3 := hid (HB2.out.trans (hb2.mono HB2.out.size)); clear hb2
        go_wp2_with fail
        go_ret
        exact ⟨by rw [← HF.out, fits_not hlt (by rw [HOA.out]; exact HR.out)]; rfl, HB3.out⟩
    · have HK : Hid (l.take k = l) := hid (List.take_of_length_le (by omega))
      go_wp2_with fail
      go_ret
      exact ⟨by rw [← HF.out, ← hall.out, HK.out]; rfl, hbel.out⟩

end Go.Proofs.YtfohdoahddommaaDoor
