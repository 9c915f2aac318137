/- Layer 2, sum: the document's answers: a contract for each function. -/
import Derived.Test.YtibnepjlddfnhaaSumA
import Derived.Test.YtibnepjlddfnhaaRef1
namespace Go.Proofs.Ytibnepjlddfnhaa
open Go.RowKit
set_option linter.unusedVariables false

set_option maxHeartbeats 1000000 in
theorem refof_any (S : ByteArray) (w : World) (hl : S.size ≤ 1000000000000) :
    Calls Try.prog 9 #[.string S] w fun e w' => e = .returned (.int .i64 (crc S.data.toList : Nat)) ∧ w = w' := by
  go_enter Try.func9, Try.ntmps9
  go_wp2
  go_loop [3, 4] (fun r i => ∃ k : Nat, k ≤ S.size ∧ i = .int .i64 k ∧ r = .int .i64 (reg 4294967295 (S.data.toList.take k) : Nat)) (fun _ i => S.size - (intOf i).toNat)
  case atStart => exact ⟨0, Nat.zero_le _, rfl, rfl⟩
  case round =>
    obtain ⟨j, hj, rfl, rfl⟩ := hrel
    obtain ⟨r1, hr1⟩ : ∃ r1, reg 4294967295 (S.data.toList.take j) = r1 := ⟨_, rfl⟩
    have HR1 := hid hr1
    have hlt1 : r1 < 4294967296 := by rw [← hr1]; exact reg_lt _ (by omega)
    rw [hr1]
    clear hr1
    by_cases hjl : j < S.size
    · obtain ⟨c1, hc1'⟩ : ∃ c1, S.data.toList[j]? = some c1 := ⟨_, List.getElem?_eq_getElem (by simpa using hjl)⟩
      have hix := idx_str S j c1 hc1'
      have HC := hid (take_snoc' _ _ _ hc1')
      clear hc1'
      have hcl := c1.toNat_lt
      go_wp2
      clear hix
      go_loop [3, 5, 6] (fun r c b => ∃ m : Nat, m ≤ 8 ∧ b = .int .i64 m ∧ r = .int .i64 ((bits2 m r1 c1.toNat).1 : Nat) ∧ c = .int .i64 ((bits2 m r1 c1.toNat).2 : Nat)) (fun _ _ i => 8 - (intOf i).toNat)
      case atStart => exact ⟨0, by omega, rfl, rfl, rfl⟩
      case round =>
        obtain ⟨m, hm, rfl, rfl, rfl⟩ := hrel
        have hx1 := bits2_lt m r1 c1.toNat hlt1
        have hy1 := bits2_snd_lt m r1 c1.toNat (by omega)
        obtain ⟨x, hx⟩ : ∃ x, (bits2 m r1 c1.toNat).1 = x := ⟨_, rfl⟩
        obtain ⟨y, hy⟩ : ∃ y, (bits2 m r1 c1.toNat).2 = y := ⟨_, rfl⟩
        have HX := hid hx; have HY := hid hy
        rw [hx] at hx1
        rw [hy] at hy1
        rw [hx, hy]
        clear hx hy
        by_cases hml : m < 8
        · by_cases hp : x % 2 = y % 2
          · have HS := hid (bits2_same HX.out HY.out hp)
            have HH := hid (bits2_half HY.out)
            have hpi : (x : Int) % 2 = (y : Int) % 2 := by omega
            go_wp2
            go_round
            case rel => exact ⟨m + 1, by omega, by go_num, by rw [HS.out]; rfl, by rw [HH.out]; rfl⟩
            case measure => simp [intOf]; omega
          · have HS := hid (bits2_flip HX.out HY.out hp)
            have HH := hid (bits2_half HY.out)
            have HD : Hid (bits .xor .i64 ((x : Int) / 2) 2197175160 = (((x / 2) ^^^ poly : Nat) : Int)) := hid (by
              have := i64_xor (x / 2) poly (by omega) (by unfold poly; omega)
              rw [← this]; rfl)
            go_wp2
            go_round
            case rel => exact ⟨m + 1, by omega, by go_num, by rw [HS.out, HD.out], by rw [HH.out]; rfl⟩
            case measure => simp [intOf]; omega
        · have HM : Hid (m = 8) := hid (by omega)
          go_wp2
          go_round
          case rel => exact ⟨j + 1, by omega, by go_num, by rw [HC.out, reg_snoc, HR1.out, ← HX.out, HM.out, bits2_eight _ _ (by omega)]⟩
          case measure => simp [intOf]; omega
    · have HJ : Hid (j = S.size) := hid (by omega)
      have hE : (4294967295 : Int) - (r1 : Int) = ((crc S.data.toList : Nat) : Int) := by
        have h2 : S.data.toList.take j = S.data.toList := List.take_of_length_le (by rw [HJ.out]; simp)
        rw [crc, ← h2, HR1.out]; omega
      have HE := hid hE; clear hE
      go_wp2
      go_ret
      exact ⟨ret_int HE.out, rfl⟩

end Go.Proofs.Ytibnepjlddfnhaa
