/- Layer 2, sum: octets, number, Frame: a contract for each function. -/
import Derived.Test.YtibnepjlddfnhaaSumA
import Derived.Test.YtibnepjlddfnhaaRef1
import Derived.Test.YtibnepjlddfnhaaShelf
import Derived.Deep.QuietTactic
import Derived.BigQuiet
namespace Go.Proofs.Ytibnepjlddfnhaa
open Go.RowKit
set_option linter.unusedVariables false

/-- The four bytes of a string, as a number without a sign. -/
def uns4 (l : List UInt8) : Nat := 256 * (256 * (256 * (l.getD 0 0).toNat + (l.getD 1 0).toNat) + (l.getD 2 0).toNat) + (l.getD 3 0).toNat

theorem uns4_lt (l : List UInt8) : uns4 l < 4294967296 := by
  have a := (l.getD 0 0).toNat_lt; have b := (l.getD 1 0).toNat_lt; have c := (l.getD 2 0).toNat_lt; have d := (l.getD 3 0).toNat_lt
  unfold uns4; omega

theorem ret_oct (n : Int) (h0 : 0 ≤ n) (h1 : n ≤ 4294967295) : Ending.returned (.string (strOfNums [n / 16777216, n / 65536 % 256, n / 256 % 256, n % 256])) = .returned (.string ⟨(enc32 n).toArray⟩) := by
  have e : [n / 16777216, n / 65536 % 256, n / 256 % 256, n % 256] = [n / 16777216 % 256, n / 65536 % 256, n / 256 % 256, n % 256] := by
    have : n / 16777216 = n / 16777216 % 256 := by omega
    rw [← this]
  rw [e]
  rfl

set_option maxHeartbeats 400000 in
theorem octets2_any (n : Int) (S : ByteArray) (hS : S = ⟨(enc32 n).toArray⟩) (h0 : 0 ≤ n) (h1 : n ≤ 4294967295) (w : World) :
    Calls Try.prog 15 #[.int .i64 n] w fun e w' => e = .returned (.string S) ∧ Below w.heap.size w w' := by
  have kc := conv4
  have HS := hid hS; clear hS
  go_enter Try.func15, Try.ntmps15
  go_wp2
  go_ret
  refine ⟨?_, (Below.refl _ _).alloc (Nat.le_refl _) _⟩
  rw [HS.out]
  exact ret_oct n h0 h1

theorem num_bits (p q r s : UInt8) : bits BinOp.or IntKind.i64 (bits BinOp.or IntKind.i64 (bits BinOp.or IntKind.i64 ((p.toNat : Int) * 16777216) ((q.toNat : Int) * 65536)) ((r.toNat : Int) * 256)) (s.toNat : Int)
    = ((256 * (256 * (256 * p.toNat + q.toNat) + r.toNat) + s.toNat : Nat) : Int) := by
  have hp := p.toNat_lt; have hq := q.toNat_lt; have hr := r.toNat_lt; have hs := s.toNat_lt
  have e1 := i64_or_sum 24 p.toNat (65536 * q.toNat) (by omega) (by omega) ((p.toNat : Int) * 16777216) ((q.toNat : Int) * 65536) (by omega) (by omega)
  have e2 := i64_or_sum 16 (256 * p.toNat + q.toNat) (256 * r.toNat) (by omega) (by omega) (bits BinOp.or IntKind.i64 ((p.toNat : Int) * 16777216) ((q.toNat : Int) * 65536)) ((r.toNat : Int) * 256) (by rw [e1]; omega) (by omega)
  have e3 := i64_or_sum 8 (65536 * p.toNat + 256 * q.toNat + r.toNat) s.toNat (by omega) (by omega)
    (bits BinOp.or IntKind.i64 (bits BinOp.or IntKind.i64 ((p.toNat : Int) * 16777216) ((q.toNat : Int) * 65536)) ((r.toNat : Int) * 256)) (s.toNat : Int) (by rw [e2]; omega) (by omega)
  rw [e3]
  omega

set_option maxHeartbeats 400000 in
theorem number_abs (p q r s : UInt8) (S : ByteArray) (h4 : 4 ≤ S.size) (hl : S.size ≤ 1000000000000)
    (i0 : ∀ w, (Instr.index 9 (.string S) (.int .i64 0)).run Try.prog w = .ok (.int .u8 p.toNat) w) (i1 : ∀ w, (Instr.index 9 (.string S) (.int .i64 1)).run Try.prog w = .ok (.int .u8 q.toNat) w)
    (i2 : ∀ w, (Instr.index 9 (.string S) (.int .i64 2)).run Try.prog w = .ok (.int .u8 r.toNat) w) (i3 : ∀ w, (Instr.index 9 (.string S) (.int .i64 3)).run Try.prog w = .ok (.int .u8 s.toNat) w)
    (w : World) :
    Calls Try.prog 16 #[.string S] w fun e w' => e = .returned (.int .i64 ((256 * (256 * (256 * p.toNat + q.toNat) + r.toNat) + s.toNat : Nat) : Int)) ∧ ∃ n, w' = w.drewN n := by
  have hp := p.toNat_lt; have hq := q.toNat_lt; have hr := r.toNat_lt; have hs := s.toNat_lt
  go_enter Try.func16, Try.ntmps16
  go_wp2_with fail
  go_quiet (fail)
  go_wp2
  go_ret
  exact ⟨ret_int (num_bits p q r s), _, rfl⟩

theorem number_any (S : ByteArray) (h4 : 4 ≤ S.size) (hl : S.size ≤ 1000000000000) (n : Nat) (hn : uns4 S.data.toList = n) (w : World) :
    Calls Try.prog 16 #[.string S] w fun e w' => e = .returned (.int .i64 n) ∧ ∃ k, w' = w.drewN k := by
  have e := quad S.data.toList (by rw [← size_list]; exact h4)
  have g : ∀ i : Nat, S.data.toList[i]? = (S.data.toList.getD 0 0 :: S.data.toList.getD 1 0 :: S.data.toList.getD 2 0 :: S.data.toList.getD 3 0 :: S.data.toList.drop 4)[i]? := fun i => by rw [← e]
  rw [← hn]
  exact number_abs _ _ _ _ S h4 hl (idx_str _ 0 _ (by rw [g]; rfl)) (idx_str _ 1 _ (by rw [g]; rfl)) (idx_str _ 2 _ (by rw [g]; rfl)) (idx_str _ 3 _ (by rw [g]; rfl)) w

/-- The bytes of a text's frame. -/
def frameL (l : List UInt8) : List UInt8 := enc32 l.length ++ (enc32 (crc (enc32 l.length ++ l) : Nat) ++ l)

theorem of_pair (b : Nat) (U S : ByteArray) (n : Int) (hn : ((crc (U.data.toList ++ S.data.toList) : Nat) : Int) = n) (w : World) (t : TypeId) (hb : w.heap[b]? = some (.cells #[.string U, .string S] t (0, 0))) (hU : U.size ≤ 1000000000000) (hS : S.size ≤ 1000000000000) :
    Calls Try.prog 8 #[.slice (some ⟨b, 0, none⟩) 2 2] w fun e w' => e = .returned (.int .i64 n) ∧ Below w.heap.size w w' := by
  have hl : b < w.heap.size := (Array.getElem?_eq_some_iff.1 hb).1
  have h1 : SlS w w.heap.size (.slice (some ⟨b, 0, none⟩) 2 2) [U, S] := by
    refine ⟨_, 2, rfl, Nat.le_refl _, fun _ => ⟨b, 0, rfl, hl, fun j T hj => ?_⟩⟩
    rw [cell_of_row _ _ _ _ _ _ hb, Nat.zero_add]
    match j, hj with
    | 0, hj => injection hj with hj; rw [hj]; rfl
    | 1, hj => injection hj with hj; rw [hj]; rfl
  have h2 : bytesOf [U, S] = U.data.toList ++ S.data.toList := by simp [bytesOf]
  rw [← h2] at hn
  rw [← hn]
  refine of_any _ [U, S] w h1 (by simp) fun T hT => ?_
  rcases List.mem_cons.1 hT with rfl | h
  · exact hU
  · rcases List.mem_cons.1 h with rfl | h
    · exact hS
    · cases h

set_option maxHeartbeats 400000 in
theorem frame_any (S F : ByteArray) (hF : F = ⟨(frameL S.data.toList).toArray⟩) (hs : S.size ≤ 1000000000) (w : World) :
    Calls Try.prog 10 #[.string S] w fun e w' => e = .returned (.string F) ∧ Below w.heap.size w w' := by
  obtain ⟨U, hU⟩ : ∃ U : ByteArray, U = ⟨(enc32 S.size).toArray⟩ := ⟨_, rfl⟩
  have hUl : U.data.toList = enc32 S.size := by rw [hU]
  obtain ⟨n, hn⟩ : ∃ n : Nat, crc (U.data.toList ++ S.data.toList) = n := ⟨_, rfl⟩
  have hnl : n < 4294967296 := by rw [← hn]; exact crc_lt _
  obtain ⟨V, hV⟩ : ∃ V : ByteArray, V = ⟨(enc32 n).toArray⟩ := ⟨_, rfl⟩
  have hVl : V.data.toList = enc32 n := by rw [hV]
  have hz : U.size = 4 := by rw [hU]; rfl
  have hz2 : V.size = 4 := by rw [hV]; rfl
  have hE : U ++ V ++ S = F := by
    rw [hF, ← mk_data (U ++ V ++ S), bytes_append, bytes_append, hUl, hVl, frameL, ← size_list, ← hUl, hn, List.append_assoc]
  have HU := hid hU; have HV := hid hV; have HN := hid hn; have HE := hid hE
  clear hU hV hn hE hUl hVl hF
  go_enter Try.func10, Try.ntmps10
  go_wp2_with fail
  refine (octets2_any _ U HU.out (by omega) (by omega) _).mono ?_
  rintro e w1 ⟨rfl, hb1⟩
  have HB := hid hb1; clear hb1
  go_wp2_with fail
  refine (of_pair w1.heap.size U S n (by rw [HN.out]) _ _ (heap_alloc_new w1 _) (by omega) (by omega)).mono ?_
  rintro e w2 ⟨rfl, hb2⟩
  have HB2 := hid ((HB.out.alloc HB.out.size _).trans (hb2.mono (by have := HB.out.size; simp; omega))); clear hb2
  go_wp2_with fail
  refine (octets2_any _ V HV.out (by omega) (by omega) _).mono ?_
  rintro e w3 ⟨rfl, hb3⟩
  have HB3 := hid (HB2.out.trans (hb3.mono HB2.out.size)); clear hb3
  go_wp2
  go_ret
  exact ⟨by rw [← HE.out]; rfl, HB3.out⟩

theorem clone_str (s : ByteArray) (w : World) (hlim : s.size ≤ 281474976710656) :
    Calls Try.prog 17 #[.string s] w fun e w' => e = .returned (.string s) ∧ Below w.heap.size w w' := by
  go_enter Try.func17, Try.ntmps17
  go_wp2_with (go_at_call 21; refine (Try.stringslite_Clone _ _ hlim).mono ?_; rintro e w' ⟨rfl, hb⟩)
  go_ret
  exact ⟨rfl, hb⟩

end Go.Proofs.Ytibnepjlddfnhaa
