/- Layer 2, sum: plain facts on frames, and the document's Frame and Open. -/
import Derived.Test.YtibnepjlddfnhaaSumO
import Derived.Test.YtibnepjlddfnhaaSumRef
import Derived.IntWalk
namespace Go.Proofs.Ytibnepjlddfnhaa
open Go.RowKit
set_option linter.unusedVariables false

theorem enc4 (a b c d : UInt8) : enc32 ((256 * (256 * (256 * a.toNat + b.toNat) + c.toNat) + d.toNat : Nat) : Int) = [a, b, c, d] := by
  have ha := a.toNat_lt; have hb := b.toNat_lt; have hc := c.toNat_lt; have hd := d.toNat_lt
  have e : ∀ (z : Int) (x : UInt8), z = x.toNat → UInt8.ofNat z.toNat = x := fun z x h => by
    apply UInt8.toNat_inj.1; rw [UInt8.toNat_ofNat']; have := x.toNat_lt; omega
  unfold enc32
  rw [e _ a (by omega), e _ b (by omega), e _ c (by omega), e _ d (by omega)]

theorem enc_uns (l : List UInt8) (h : 4 ≤ l.length) : enc32 (uns4 l : Int) = l.take 4 := by
  match l, h with
  | a :: b :: c :: d :: r, _ => exact enc4 a b c d

theorem uns_enc (n : Nat) (h : n < 4294967296) (r : List UInt8) : uns4 (enc32 n ++ r) = n := by
  have e : uns4 (enc32 n ++ r) = 256 * (256 * (256 * (UInt8.ofNat (((n : Int) / 16777216) % 256).toNat).toNat + (UInt8.ofNat (((n : Int) / 65536) % 256).toNat).toNat) + (UInt8.ofNat (((n : Int) / 256) % 256).toNat).toNat) + (UInt8.ofNat ((n : Int) % 256).toNat).toNat := rfl
  rw [e, UInt8.toNat_ofNat', UInt8.toNat_ofNat', UInt8.toNat_ofNat', UInt8.toNat_ofNat']
  omega

theorem enc_low (n : Int) : enc32 (n - 4294967296) = enc32 n := by
  unfold enc32
  rw [show (n - 4294967296) / 16777216 % 256 = n / 16777216 % 256 by omega, show (n - 4294967296) / 65536 % 256 = n / 65536 % 256 by omega, show (n - 4294967296) / 256 % 256 = n / 256 % 256 by omega, show (n - 4294967296) % 256 = n % 256 by omega]

theorem head_uns (l : List UInt8) : head4 l = if (uns4 l : Int) < 2147483648 then (uns4 l : Int) else (uns4 l : Int) - 4294967296 := by
  unfold head4
  refine dec4_of _ _ _ _ _ ?_
  unfold uns4
  omega

theorem frameL_len (l : List UInt8) : (frameL l).length = 8 + l.length := by
  simp [frameL, enc32_len]; omega

theorem take_8 (l : List UInt8) (n : Nat) : l.take (8 + n) = l.take 4 ++ ((l.drop 4).take 4 ++ (l.drop 8).take n) := by
  have e1 := List.take_add (l := l) (i := 8) (j := n)
  have e2 := List.take_add (l := l) (i := 4) (j := 4)
  rw [e1, e2, List.append_assoc]

/-- The bytes that stand at a frame's place are the text's frame just if the sum is right. -/
theorem frame_iff (l : List UInt8) (n : Nat) (hn : uns4 l = n) (h : 8 + n ≤ l.length) :
    frameL ((l.drop 8).take n) = l.take (8 + n) ↔ crc (l.take 4 ++ (l.drop 8).take n) = uns4 (l.drop 4) := by
  have hl : ((l.drop 8).take n).length = n := by rw [List.length_take, List.length_drop]; omega
  have h4 : enc32 ((((l.drop 8).take n).length : Nat) : Int) = l.take 4 := by rw [hl, ← hn]; exact enc_uns l (by omega)
  rw [take_8, frameL, h4]
  constructor
  · intro e
    have e1 := List.append_cancel_left e
    have e2 := congrArg uns4 e1
    rw [uns_enc _ (crc_lt _), ← enc_uns (l.drop 4) (by rw [List.length_drop]; omega), uns_enc _ (uns4_lt _)] at e2
    exact e2
  · intro e
    rw [e, enc_uns (l.drop 4) (by rw [List.length_drop]; omega)]

set_option maxHeartbeats 400000 in
theorem refframe_any (S F : ByteArray) (hF : F = ⟨(frameL S.data.toList).toArray⟩) (hs : S.size ≤ 1000000000) (w : World) :
    Calls Try.prog 13 #[.string S] w fun e w' => e = .returned (.string F) ∧ Below w.heap.size w w' := by
  obtain ⟨U, hU⟩ : ∃ U : ByteArray, U = ⟨(enc32 S.size).toArray⟩ := ⟨_, rfl⟩
  have hUl : U.data.toList = enc32 S.size := by rw [hU]
  obtain ⟨X, hX⟩ : ∃ X, U ++ S = X := ⟨_, rfl⟩
  obtain ⟨n, hn⟩ : ∃ n : Nat, crc X.data.toList = n := ⟨_, rfl⟩
  have hnl : n < 4294967296 := by rw [← hn]; exact crc_lt _
  obtain ⟨V, hV⟩ : ∃ V : ByteArray, V = ⟨(enc32 n).toArray⟩ := ⟨_, rfl⟩
  have hVl : V.data.toList = enc32 n := by rw [hV]
  have hz : U.size = 4 := by rw [hU]; rfl
  have hz2 : V.size = 4 := by rw [hV]; rfl
  have hz3 : X.size = 4 + S.size := by rw [← hX, size_append, hz]
  have hE : U ++ V ++ S = F := by
    rw [hF, ← mk_data (U ++ V ++ S), bytes_append, bytes_append, hUl, hVl, frameL, ← size_list, ← hUl, ← bytes_append, hX, hn, List.append_assoc]
  have hO := fun w => refof_any X w (by omega)
  rw [hn] at hO
  obtain ⟨N, hN⟩ : ∃ N : Int, (n : Int) = N := ⟨_, rfl⟩
  rw [hN] at hV
  have hO' : ∀ w, Calls Try.prog 9 #[.string X] w fun e w' => e = .returned (.int .i64 N) ∧ w = w' := fun w => by rw [← hN]; exact hO w
  have hN0 : 0 ≤ N := by omega
  have hN1 : N ≤ 4294967295 := by omega
  have HU := hid hU; have HV := hid hV; have HE := hid hE; have HO := hid hO'
  clear hU hV hn hE hUl hVl hF hO hO' hN hnl
  have HV2 : Hid (V = ⟨(enc32 (N - 4294967296)).toArray⟩) := hid (by rw [enc_low]; exact HV.out)
  by_cases hb : N < 2147483648
  · go_enter Try.func13, Try.ntmps13
    go_wp2_with fail
    refine (put_num _ _ ⟨by omega, by omega⟩ U HU.out).mono ?_
    rintro e w1 ⟨rfl, hb1⟩
    have HB := hid hb1; clear hb1
    go_wp2_with fail
    refine (HO.out _).mono ?_
    rintro e w2 ⟨rfl, rfl⟩
    go_wp2_with fail
    refine (put_num _ _ ⟨by omega, by omega⟩ U HU.out).mono ?_
    rintro e w3 ⟨rfl, hb3⟩
    have HB3 := hid (HB.out.trans (hb3.mono HB.out.size)); clear hb3
    go_wp2_with fail
    refine (put_num _ _ ⟨by omega, by omega⟩ V HV.out).mono ?_
    rintro e w4 ⟨rfl, hb4⟩
    have HB4 := hid (HB3.out.trans (hb4.mono HB3.out.size)); clear hb4
    go_wp2
    go_ret
    exact ⟨by rw [← HE.out]; rfl, HB4.out⟩
  · go_enter Try.func13, Try.ntmps13
    go_wp2_with fail
    refine (put_num _ _ ⟨by omega, by omega⟩ U HU.out).mono ?_
    rintro e w1 ⟨rfl, hb1⟩
    have HB := hid hb1; clear hb1
    go_wp2_with fail
    refine (HO.out _).mono ?_
    rintro e w2 ⟨rfl, rfl⟩
    go_wp2_with fail
    refine (put_num _ _ ⟨by omega, by omega⟩ U HU.out).mono ?_
    rintro e w3 ⟨rfl, hb3⟩
    have HB3 := hid (HB.out.trans (hb3.mono HB.out.size)); clear hb3
    go_wp2_with fail
    refine (put_num _ _ ⟨by omega, by omega⟩ V HV2.out).mono ?_
    rintro e w4 ⟨rfl, hb4⟩
    have HB4 := hid (HB3.out.trans (hb4.mono HB3.out.size)); clear hb4
    go_wp2
    go_ret
    exact ⟨by rw [← HE.out]; rfl, HB4.out⟩

set_option maxHeartbeats 1000000 in
theorem refopen_two (S T P R F : ByteArray) (n : Nat) (hg : head4 S.data.toList = n) (h1 : n ≤ 1048576) (h2 : 8 + n ≤ S.size) (hl : S.size ≤ 1000000000)
    (hT : S.extract 8 (8 + n) = T) (hP : S.extract 0 (8 + n) = P) (hR : S.extract (8 + n) S.size = R) (hF : F = ⟨(frameL T.data.toList).toArray⟩) (hTs : T.size ≤ 1000000000) (A B : ByteArray) (E : Int)
    (hq : (F = P ∧ A = T ∧ B = R ∧ E = 0) ∨ (F ≠ P ∧ A = ⟨#[]⟩ ∧ B = S ∧ E = 5)) (w : World) :
    Calls Try.prog 12 #[.string S] w fun e w' => e = .returned (.tuple #[.string A, .string B, .int .i64 E]) ∧ Below w.heap.size w w' := by
  have HF := hid hF
  have HG : Hid (∀ w, Calls Try.prog 18 #[.string S] w fun e w' => e = .returned (.tuple #[.int .i64 n, .bool true]) ∧ w = w') := hid (fun w => by
    have := get_ok S w (by omega) (by omega)
    rw [hg] at this
    exact this)
  have i1 : (8 : Int) ≤ (S.size : Int) := by omega
  have i2 : (8 : Int) ≤ 8 + (n : Int) := by omega
  have i3 : (8 : Int) + (n : Int) ≤ (S.size : Int) := by omega
  have i4 : (0 : Int) ≤ 8 + (n : Int) := by omega
  have i5 : (8 + (n : Int)).toNat = 8 + n := by omega
  have i6 : IntKind.i64.wrap (8 + (n : Int)) = 8 + (n : Int) := IntWalk.i64_in _ (by omega)
  have HB : Hid (Below w.heap.size w w) := hid (Below.refl _ _)
  clear hF hg
  rcases hq with ⟨hq, rfl, rfl, rfl⟩ | ⟨hq, rfl, rfl, rfl⟩
  · obtain rfl := hq
    go_enter Try.func12, Try.ntmps12
    go_wp2_with fail
    refine (HG.out _).mono ?_
    rintro e w1 ⟨rfl, rfl⟩
    go_wp2_with fail
    go_region_held3 (fun w' => Hid (Below w.heap.size w w')) (first | assumption | exact bl_alloc (by assumption) _ | exact bl_drew (by assumption) | exact bl_drewN (by assumption) _ | exact bl_below (by assumption) (by assumption))
      (first | (go_at_call 13; refine (refframe_any _ F HF.out hTs _).mono ?_; rintro e w' ⟨rfl, hb⟩))
    clear HB
    go_wp2_with fail
    go_region_held3 (fun w' => Hid (Below w.heap.size w w')) (first | assumption | exact bl_alloc (by assumption) _ | exact bl_drew (by assumption) | exact bl_drewN (by assumption) _ | exact bl_below (by assumption) (by assumption))
      (fail)
    go_wp2
    go_ret3
    refine ⟨rfl, ?_⟩
    exact Hid.out (by assumption)
  · have i7 := str_bne hq
    have i8 : (F.toList != P.toList) = true := by simp [bne, i7]
    have HQ := hid hq; clear hq
    go_enter Try.func12, Try.ntmps12
    go_wp2_with fail
    refine (HG.out _).mono ?_
    rintro e w1 ⟨rfl, rfl⟩
    go_wp2_with fail
    go_region_held3 (fun w' => Hid (Below w.heap.size w w')) (first | assumption | exact bl_alloc (by assumption) _ | exact bl_drew (by assumption) | exact bl_drewN (by assumption) _ | exact bl_below (by assumption) (by assumption))
      (first | (go_at_call 13; refine (refframe_any _ F HF.out hTs _).mono ?_; rintro e w' ⟨rfl, hb⟩))
    clear HB
    go_wp2
    go_ret3
    refine ⟨rfl, ?_⟩
    exact Hid.out (by assumption)

theorem refopen_gen (S A B : ByteArray) (E : Int) (h : Opn S A B E) (hl : S.size ≤ 1000000000) (w : World) :
    Calls Try.prog 12 #[.string S] w fun e w' => e = .returned (.tuple #[.string A, .string B, .int .i64 E]) ∧ Below w.heap.size w w' := by
  have hu := head_uns S.data.toList
  have hul := uns4_lt S.data.toList
  cases h with
  | short h =>
    clear hu hul
    go_enter Try.func12, Try.ntmps12
    go_wp2
    go_ret3
    exact ⟨rfl, Below.refl _ _⟩
  | long h h1 =>
    obtain ⟨Z, hZ⟩ : ∃ Z, head4 S.data.toList = Z := ⟨_, rfl⟩
    rw [hZ] at hu
    have HG : Hid (∀ w, Calls Try.prog 18 #[.string S] w fun e w' => e = .returned (.tuple #[.int .i64 Z, .bool true]) ∧ w = w') := hid (fun w => by
      have := get_ok S w (by omega) (by omega)
      rw [hZ] at this
      exact this)
    have hc : Z < 0 ∨ (¬ Z < 0 ∧ 1048576 < Z) := by
      rw [hu]; split <;> omega
    clear hu hul h1 hZ
    rcases hc with h1 | ⟨h1, h2⟩
    all_goals
      go_enter Try.func12, Try.ntmps12
      go_wp2_with fail
      refine (HG.out _).mono ?_
      rintro e w1 ⟨rfl, rfl⟩
      go_wp2
      go_ret3
      exact ⟨rfl, Below.refl _ _⟩
  | far h h1 h2 =>
    obtain ⟨n, hn⟩ : ∃ n, uns4 S.data.toList = n := ⟨_, rfl⟩
    rw [hn] at h1 h2 hu hul
    have HG : Hid (∀ w, Calls Try.prog 18 #[.string S] w fun e w' => e = .returned (.tuple #[.int .i64 n, .bool true]) ∧ w = w') := hid (fun w => by
      have := get_ok S w (by omega) (by omega)
      rw [hu, if_pos (by omega)] at this
      exact this)
    clear hu hul hn
    go_enter Try.func12, Try.ntmps12
    go_wp2_with fail
    refine (HG.out _).mono ?_
    rintro e w1 ⟨rfl, rfl⟩
    go_wp2
    go_ret3
    exact ⟨rfl, Below.refl _ _⟩
  | bad n hn h1 h2 h3 =>
    have e2 : (S.extract 8 (8 + n)).data.toList = (S.data.toList.drop 8).take n := by rw [extract_list, List.drop_take]; congr 1; omega
    have e3 : (S.extract 0 (8 + n)).data.toList = S.data.toList.take (8 + n) := by rw [extract_list]; rfl
    have hi := frame_iff S.data.toList n hn (by rw [← size_list]; exact h2)
    refine refopen_two S _ _ _ _ n (by rw [hu, hn, if_pos (by omega)]) h1 h2 hl rfl rfl rfl rfl (by simp; omega) _ _ _ (.inr ⟨fun e => h3 (hi.1 ?_), rfl, rfl, rfl⟩) w
    rw [← e2, ← e3, ← e]
  | ok n hn h1 h2 h3 =>
    have e2 : (S.extract 8 (8 + n)).data.toList = (S.data.toList.drop 8).take n := by rw [extract_list, List.drop_take]; congr 1; omega
    have e3 : (S.extract 0 (8 + n)).data.toList = S.data.toList.take (8 + n) := by rw [extract_list]; rfl
    have hi := frame_iff S.data.toList n hn (by rw [← size_list]; exact h2)
    refine refopen_two S _ _ _ _ n (by rw [hu, hn, if_pos (by omega)]) h1 h2 hl rfl rfl rfl rfl (by simp; omega) _ _ _ (.inl ⟨?_, rfl, rfl, rfl⟩) w
    rw [e2, hi.2 h3, ← e3, mk_data]

theorem frame_drop8 (l r : List UInt8) : (frameL l ++ r).drop 8 = l ++ r := rfl
theorem frame_drop4 (l r : List UInt8) : (frameL l ++ r).drop 4 = enc32 (crc (enc32 l.length ++ l) : Nat) ++ (l ++ r) := rfl
theorem frame_take4 (l r : List UInt8) : (frameL l ++ r).take 4 = enc32 l.length := rfl

theorem frame_uns (l r : List UInt8) (h : l.length ≤ 1048576) : uns4 (frameL l ++ r) = l.length := by
  have e : frameL l ++ r = enc32 (l.length : Nat) ++ (enc32 (crc (enc32 l.length ++ l) : Nat) ++ l ++ r) := by simp [frameL]
  rw [e, uns_enc _ (by omega)]

/-- What begins with a text's frame is opened. -/
theorem Opn.of_frame (X S R : ByteArray) (hX : X.data.toList = frameL S.data.toList ++ R.data.toList) (hs : S.size ≤ 1048576) : Opn X S R 0 := by
  have hl := size_list S
  have hn : uns4 X.data.toList = S.size := by rw [hX, frame_uns _ _ (by omega), hl]
  have hz : X.size = 8 + S.size + R.size := by rw [size_list, hX, List.length_append, frameL_len, ← size_list, ← size_list]
  have h := Opn.ok (S := X) S.size hn hs (by omega) (by
    rw [hX, frame_take4, frame_drop8, frame_drop4, uns_enc _ (crc_lt _), hl, List.take_left])
  have e1 : X.extract 8 (8 + S.size) = S := by
    rw [← mk_data (X.extract 8 (8 + S.size)), extract_list, List.drop_take, hX, frame_drop8, show 8 + S.size - 8 = S.data.toList.length by omega, List.take_left, mk_data]
  have e2 : X.extract (8 + S.size) X.size = R := by
    rw [← mk_data (X.extract (8 + S.size) X.size), extract_list, size_list X, List.take_of_length_le (Nat.le_refl _), hX, ← List.drop_drop, frame_drop8, hl, List.drop_left, mk_data]
  rw [e1, e2] at h
  exact h

end Go.Proofs.Ytibnepjlddfnhaa
