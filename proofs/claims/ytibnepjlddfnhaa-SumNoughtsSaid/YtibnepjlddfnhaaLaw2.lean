/- Layer 2, sum: the laws' walks: awake, SumOf. -/
import Derived.Test.YtibnepjlddfnhaaSumRef
namespace Go.Proofs.Ytibnepjlddfnhaa
open Go.RowKit
set_option linter.unusedVariables false

theorem of_val (v : Value) (ls : List ByteArray) (n : Int) (hn : ((crc (bytesOf ls) : Nat) : Int) = n) (w : World) (hv : SlS w w.heap.size v ls) (hl : ls.length ≤ 1000000000000) (hz : ∀ S ∈ ls, S.size ≤ 1000000000000) :
    Calls Try.prog 8 #[v] w fun e w' => e = .returned (.int .i64 n) ∧ Below w.heap.size w w' := by
  rw [← hn]; exact of_any v ls w hv hl hz

def dig1 : ByteArray := ⟨#[49, 50, 51, 52, 53, 54, 55, 56, 57]⟩
def dig2 : ByteArray := ⟨#[49, 50, 51, 52]⟩
def dig3 : ByteArray := ⟨#[53, 54, 55, 56, 57]⟩
theorem dig_small1 : ∀ S ∈ [dig1], S.size ≤ 1000000000000 := by
  intro S hS
  have e1 : dig1.size = 9 := rfl
  rcases List.mem_cons.1 hS with rfl | h
  · omega
  · cases h
theorem dig_small2 : ∀ S ∈ [dig2, dig3], S.size ≤ 1000000000000 := by
  intro S hS
  have e1 : dig2.size = 4 := rfl
  have e2 : dig3.size = 5 := rfl
  rcases List.mem_cons.1 hS with rfl | h
  · omega
  · rcases List.mem_cons.1 h with rfl | h
    · omega
    · cases h

set_option maxHeartbeats 400000 in
theorem awake2 (w : World) : Calls Try.prog 7 #[] w fun e w' => e = .returned (.bool true) ∧ Below w.heap.size w w' := by
  have HE1 : Hid (((crc (bytesOf [dig1]) : Nat) : Int) = 3808858755) := hid (by
    have e : bytesOf [dig1] = [49, 50, 51, 52, 53, 54, 55, 56, 57] := rfl
    rw [e, crc_digits]; rfl)
  have HE2 : Hid (((crc (bytesOf [dig2, dig3]) : Nat) : Int) = 3808858755) := hid (by
    have e : bytesOf [dig2, dig3] = [49, 50, 51, 52, 53, 54, 55, 56, 57] := rfl
    rw [e, crc_digits]; rfl)
  go_enter Try.func7, Try.ntmps7
  go_wp2_with fail
  refine (of_val _ [dig1] _ HE1.out _ (SlS.new w [dig1] _) (by simp) dig_small1).mono ?_
  rintro e w1 ⟨rfl, hb1⟩
  have HB1 := hid (((Below.refl _ w).alloc (Nat.le_refl _) _).trans (hb1.mono (by simp))); clear hb1
  go_wp2_with fail
  refine (of_val _ [dig2, dig3] _ HE2.out _ (SlS.new w1 [dig2, dig3] _) (by simp) dig_small2).mono ?_
  rintro e w2 ⟨rfl, hb2⟩
  have HB2 := hid ((HB1.out.alloc HB1.out.size _).trans (hb2.mono (by have := HB1.out.size; simp; omega))); clear hb2
  go_wp2
  go_ret
  exact ⟨rfl, HB2.out⟩

def joinS (ls : List ByteArray) : ByteArray := ls.foldl (· ++ ·) ByteArray.empty

theorem bytes_foldl : ∀ (ls : List ByteArray) (T : ByteArray), (ls.foldl (· ++ ·) T).data.toList = T.data.toList ++ bytesOf ls
  | [], T => by simp [bytesOf]
  | S :: ls, T => by
    rw [List.foldl_cons, bytes_foldl ls, bytes_append, List.append_assoc]
    rfl
theorem bytes_join (ls : List ByteArray) : (joinS ls).data.toList = bytesOf ls := by
  rw [joinS, bytes_foldl]; rfl
theorem joinS_snoc (ls : List ByteArray) (k : Nat) (S : ByteArray) (h : ls[k]? = some S) : joinS (ls.take (k + 1)) = joinS (ls.take k) ++ S := by
  rw [take_snoc' ls k S h, joinS, joinS, List.foldl_append]; rfl
theorem bytesOf_len (ls : List ByteArray) : ∀ S ∈ ls, S.size ≤ (bytesOf ls).length := by
  induction ls with
  | nil => intro S h; cases h
  | cons T ls ih =>
    intro S h
    have e : bytesOf (T :: ls) = T.data.toList ++ bytesOf ls := rfl
    rw [e, List.length_append]
    rcases List.mem_cons.1 h with rfl | h
    · have := size_list S; omega
    · have := ih S h; omega

set_option maxHeartbeats 1000000 in
theorem law_of (v : Value) (ls : List ByteArray) (w : World) (h : SsIn w v ls) :
    Calls Try.prog 3 #[v] w fun e w' => e = .returned (.bool true) ∧ Below w.heap.size w w' := by
  obtain ⟨hv, hz, hm⟩ := h
  have HV := hid hv
  have HZ := hid hz; clear hz
  obtain ⟨A, c, rfl, hc, hA⟩ := hv
  go_enter Try.func3, Try.ntmps3
  go_wp2_with fail
  refine (awake2 _).mono ?_
  rintro e w1 ⟨rfl, hb1⟩
  have HB := hid hb1; clear hb1
  have HA := hid hA; clear hA
  go_wp2_with fail
  go_loop [3, 10] (fun t i => ∃ (k : Nat) (T : ByteArray), k ≤ ls.length ∧ T.size ≤ 3000 ∧ T = joinS (ls.take k) ∧ i = .int .i64 k ∧ t = .string T) (fun _ i => ls.length - (intOf i).toNat)
  case atStart => exact ⟨0, ByteArray.empty, Nat.zero_le _, by simp, rfl, rfl, rfl⟩
  case round =>
    obtain ⟨k, T, hk, hT, hJ, rfl, rfl⟩ := hrel
    have HJ := hid hJ; clear hJ
    by_cases hlt : k < ls.length
    · obtain ⟨b, o, rfl, hbB, hcell⟩ := HA.out (by omega)
      obtain ⟨S, hS⟩ : ∃ S, ls[k]? = some S := ⟨_, List.getElem?_eq_getElem hlt⟩
      have hc1 := (HB.out.cell (p := ⟨b, o + k, none⟩) hbB).trans (hcell k S hS)
      have hsz := HZ.out S (List.mem_of_getElem? hS)
      have HN := hid (joinS_snoc ls k S hS)
      clear hcell hS
      have hsa := size_append T S
      obtain ⟨U, hU⟩ : ∃ U, T ++ S = U := ⟨_, rfl⟩
      have HU := hid hU
      rw [hU] at hsa
      by_cases hbig : 3000 < T.size + S.size
      · have hUb : 3000 < U.size := by omega
        clear hsa
        go_wp2
        go_ret
        exact ⟨rfl, HB.out⟩
      · have hUb : U.size ≤ 3000 := by omega
        clear hsa
        go_wp2
        go_round
        case rel => exact ⟨k + 1, U, by omega, hUb, by rw [HN.out, ← HJ.out, HU.out], by go_num, rfl⟩
        case measure => simp [intOf]; omega
    · have HK : Hid (k = ls.length) := hid (by omega)
      have HT : Hid (T.data.toList = bytesOf ls) := hid (by rw [HJ.out, bytes_join, HK.out, List.take_of_length_le (Nat.le_refl _)])
      by_cases h60 : 60 < ls.length
      · go_wp2
        go_ret
        exact ⟨rfl, HB.out⟩
      · have HL : Hid ((bytesOf ls).length ≤ 3000) := hid (by rw [← HT.out, ← size_list]; exact hT)
        have HS : Hid (∀ S ∈ ls, S.size ≤ 1000000000000) := hid (fun S hS => Nat.le_trans (bytesOf_len ls S hS) (Nat.le_trans HL.out (by omega)))
        obtain ⟨n, hn⟩ : ∃ n : Int, ((crc (bytesOf ls) : Nat) : Int) = n := ⟨_, rfl⟩
        have HN := hid hn; clear hn
        have HR : Hid (∀ w, Calls Try.prog 9 #[.string T] w fun e w' => e = .returned (.int .i64 n) ∧ w = w') := hid (fun w => by
          have := refof_any T w (by omega)
          rw [HT.out, HN.out] at this
          exact this)
        go_wp2_with fail
        refine (of_val _ ls n HN.out _ ((HV.out.below HB.out).mono HB.out.size) (by omega) HS.out).mono ?_
        rintro e w2 ⟨rfl, hb2⟩
        have HB2 := hid (HB.out.trans (hb2.mono HB.out.size)); clear hb2
        go_wp2_with fail
        refine (HR.out _).mono ?_
        rintro e w3 ⟨rfl, rfl⟩
        go_wp2
        go_ret
        exact ⟨rfl, HB2.out⟩

end Go.Proofs.Ytibnepjlddfnhaa
