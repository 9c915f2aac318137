/- Layer 2, sum: SumTells' walk. -/
import Derived.Test.YtibnepjlddfnhaaLaw2F
import Derived.Test.YtibnepjlddfnhaaBytes
namespace Go.Proofs.Ytibnepjlddfnhaa
open Go.RowKit
set_option linter.unusedVariables false

theorem split_at (l : List UInt8) (k : Nat) (c : UInt8) (h : l[k]? = some c) : l = l.take k ++ c :: l.drop (k + 1) := by
  have hk : k < l.length := by
    rcases Nat.lt_or_ge k l.length with h1 | h1
    · exact h1
    · rw [List.getElem?_eq_none h1] at h; cases h
  rw [List.getElem?_eq_getElem hk] at h
  injection h with h
  rw [← h, List.getElem_cons_drop, List.take_append_drop]

theorem set_split (l : List UInt8) (k : Nat) (d : UInt8) (h : k < l.length) : l.set k d = l.take k ++ d :: l.drop (k + 1) := by
  rw [List.set_eq_take_append_cons_drop, if_pos h]

/-- A frame in which one byte behind its length is another one. -/
theorem Opn.tells (X : ByteArray) (l : List UInt8) (at_ : Nat) (c d : UInt8) (hl : l.length ≤ 1048576) (ha : at_ < l.length + 4) (hX : X.data.toList = (frameL l).set (4 + at_) d) (hc : (frameL l)[4 + at_]? = some c) (hd : c ≠ d) : Opn X ⟨#[]⟩ X 5 := by
  obtain ⟨q, hq⟩ : ∃ q, q = crc (enc32 l.length ++ l) := ⟨_, rfl⟩
  have hql : q < 4294967296 := by rw [hq]; exact crc_lt _
  have hF : frameL l = enc32 l.length ++ (enc32 q ++ l) := by rw [frameL, hq]
  have h4 : (enc32 (l.length : Int)).length = 4 := rfl
  have h4q : (enc32 (q : Int)).length = 4 := rfl
  have hX2 : X.data.toList = enc32 l.length ++ (enc32 q ++ l).set at_ d := by
    rw [hX, hF, List.set_append, if_neg (by omega)]
    congr 2; omega
  have hc2 : (enc32 (q : Int) ++ l)[at_]? = some c := by
    rw [hF, List.getElem?_append_right (by omega)] at hc
    rw [← hc]; congr 1; omega
  have hz : X.size = 8 + l.length := by rw [size_list, hX, List.length_set, frameL_len]
  have hn : uns4 X.data.toList = l.length := by rw [hX2, uns_enc _ (by omega)]
  have ht : X.data.toList.take 4 = enc32 l.length := by rw [hX2, ← h4, List.take_left]
  have hd4 : X.data.toList.drop 4 = (enc32 q ++ l).set at_ d := by rw [hX2, ← h4, List.drop_left]
  have hd8 : X.data.toList.drop 8 = ((enc32 q ++ l).set at_ d).drop 4 := by rw [← hd4, List.drop_drop]
  refine .bad l.length hn hl (by omega) ?_
  rw [ht, hd8, hd4]
  by_cases h : at_ < 4
  · rw [List.set_append, if_pos (by omega)]
    have h5 : ((enc32 (q : Int)).set at_ d).length = 4 := by rw [List.length_set, h4q]
    have e : ((enc32 (q : Int)).set at_ d ++ l).drop 4 = l := by rw [← h5, List.drop_left]
    rw [e, List.take_of_length_le (Nat.le_refl _), ← hq]
    intro e2
    have e3 := enc_uns ((enc32 (q : Int)).set at_ d ++ l) (by rw [List.length_append, h5]; omega)
    rw [← e2] at e3
    have e4 : ((enc32 (q : Int)).set at_ d ++ l).take 4 = (enc32 (q : Int)).set at_ d := by
      have := List.take_left (l₁ := (enc32 (q : Int)).set at_ d) (l₂ := l)
      rwa [h5] at this
    rw [e4] at e3
    rw [List.getElem?_append_left (by omega), e3, List.getElem?_set_self (by omega)] at hc2
    injection hc2 with hc2
    exact hd hc2.symm
  · rw [List.set_append, if_neg (by omega), h4q]
    have e : (enc32 (q : Int) ++ l.set (at_ - 4) d).drop 4 = l.set (at_ - 4) d := by
      have := List.drop_left (l₁ := enc32 (q : Int)) (l₂ := l.set (at_ - 4) d)
      rwa [h4q] at this
    rw [e, List.take_of_length_le (by simp), uns_enc _ hql, hq]
    rw [List.getElem?_append_right (by omega), h4q] at hc2
    have s1 := split_at l (at_ - 4) c hc2
    have s2 := set_split l (at_ - 4) d (by omega)
    have hu := crc_unlike (enc32 l.length ++ l.take (at_ - 4)) (l.drop (at_ - 4 + 1)) c d hd
    rw [List.append_assoc, List.append_assoc, ← s1, ← s2] at hu
    exact fun e => hu e.symm

set_option maxRecDepth 100000 in
set_option maxHeartbeats 1000000 in
theorem law_tells (S : ByteArray) (a b : Int) (w : World) (hS : S.size ≤ maxLen) (ha : (Lit.int .i64 a).wf = true) (hb : (Lit.int .u8 b).wf = true) :
    Calls Try.prog 5 #[.string S, .int .i64 a, .int .u8 b] w fun e w' => e = .returned (.bool true) ∧ Below w.heap.size w w' := by
  unfold maxLen at hS
  have hab := bounds_i64 ha
  have hbb : 0 ≤ b ∧ b ≤ 255 := by simpa [Lit.wf, IntKind.min, IntKind.max, IntKind.signed, IntKind.bits] using hb
  obtain ⟨hb0, hb1⟩ := hbb
  clear ha hb
  by_cases h1 : 3000 < S.size
  · go_enter Try.func5, Try.ntmps5
    go_wp2_with fail
    refine (awake2 _).mono ?_
    rintro e w1 ⟨rfl, hb1⟩
    have HB := hid hb1; clear hb1
    go_wp2
    go_ret
    exact ⟨rfl, HB.out⟩
  by_cases h2 : a < 0
  · go_enter Try.func5, Try.ntmps5
    go_wp2_with fail
    refine (awake2 _).mono ?_
    rintro e w1 ⟨rfl, hb1⟩
    have HB := hid hb1; clear hb1
    go_wp2
    go_ret
    exact ⟨rfl, HB.out⟩
  by_cases h3 : (S.size : Int) + 4 ≤ a
  · go_enter Try.func5, Try.ntmps5
    go_wp2_with fail
    refine (awake2 _).mono ?_
    rintro e w1 ⟨rfl, hb1⟩
    have HB := hid hb1; clear hb1
    go_wp2
    go_ret
    exact ⟨rfl, HB.out⟩
  by_cases h4 : b = 0
  · subst h4
    go_enter Try.func5, Try.ntmps5
    go_wp2_with fail
    refine (awake2 _).mono ?_
    rintro e w1 ⟨rfl, hb1⟩
    have HB := hid hb1; clear hb1
    go_wp2
    go_ret
    exact ⟨rfl, HB.out⟩
  obtain ⟨n, rfl⟩ := Int.eq_ofNat_of_zero_le (show 0 ≤ a by omega)
  have h4b : (b == 0) = false := by simpa using h4
  obtain ⟨F, hF⟩ : ∃ F : ByteArray, F = ⟨(frameL S.data.toList).toArray⟩ := ⟨_, rfl⟩
  have hFl : F.data.toList = frameL S.data.toList := by rw [hF]
  have hFs : F.size = 8 + S.size := by rw [size_list, hFl, frameL_len, ← size_list]
  have HF := hid hF; clear hF
  have hFs1 : F.size ≤ 4000 := by omega
  have hFs2 : 8 + S.size ≤ F.size := by omega
  have HFS := hid hFs; have HFL := hid hFl; clear hFs hFl h4
  go_enter Try.func5, Try.ntmps5
  go_wp2_with fail
  refine (awake2 _).mono ?_
  rintro e w1 ⟨rfl, hb1⟩
  have HB := hid hb1; clear hb1
  go_wp2_with fail
  refine (frame_any S F HF.out (by omega) _).mono ?_
  rintro e w2 ⟨rfl, hb2⟩
  have HB2 := hid (HB.out.trans (hb2.mono HB.out.size)); clear hb2
  obtain ⟨W, K, hcv, hK, hBA, hfr, hbW, hgW⟩ := bytes_of_str w2 F
  have hlen : F.data.toList.length = F.size := (size_list F).symm
  obtain ⟨c, hc⟩ : ∃ c, F.data.toList[4 + n]? = some c := ⟨_, List.getElem?_eq_getElem (by omega)⟩
  have hcell := hBA _ _ hc
  have hfr0 := hfr (4 + n) (by omega)
  obtain ⟨m, rfl⟩ := Int.eq_ofNat_of_zero_le hb0
  obtain ⟨d, hd⟩ : ∃ d : UInt8, d = UInt8.ofNat (c.toNat ^^^ m) := ⟨_, rfl⟩
  have hcl := c.toNat_lt
  have hxl : c.toNat ^^^ m < 256 := Nat.xor_lt_two_pow (n := 8) (by omega) (by omega)
  have hdv : d.toNat = c.toNat ^^^ m := by rw [hd, UInt8.toNat_ofNat']; omega
  have hx : bits .xor .u8 (c.toNat : Int) (m : Int) = (d.toNat : Int) := by rw [u8_xor _ _ (by omega) (by omega), hdv]
  have hcd : c ≠ d := by
    intro e
    have e2 : c.toNat = c.toNat ^^^ m := by rw [← hdv, ← e]
    have e3 := congrArg (c.toNat ^^^ ·) e2
    simp only [Nat.xor_self, ← Nat.xor_assoc, Nat.zero_xor] at e3
    rw [← e3] at h4b
    simp at h4b
  obtain ⟨X, hX⟩ : ∃ X : ByteArray, X = ⟨(F.data.toList.set (4 + n) d).toArray⟩ := ⟨_, rfl⟩
  have HO : Hid (Opn X ⟨#[]⟩ X 5) := hid (by
    have hl := size_list S
    refine Opn.tells X S.data.toList n c d (by omega) (by omega) (by rw [hX, HFL.out]) (by rw [← HFL.out]; exact hc) hcd)
  have HBA := hid (hBA.set (k := 4 + n) (by omega) d)
  have HX := hid hX
  have hXs : X.size ≤ 4000 := by rw [hX, size_mk, List.length_set]; omega
  have hcv2 := str_of_bytes _ w2.heap.size F.size K _ HBA.out (by rw [List.length_set]; omega) X HX.out
  have HBW := hid (HB2.out.trans (hbW.mono HB2.out.size))
  have HG := hid hgW
  have HS2 := hid HB2.out.size
  have HLN := hid (show F.size = (F.data.toList.set (4 + n) d).length by rw [List.length_set]; omega)
  generalize hG : w2.heap.size = G at *
  have hFs3 : 4 + n < F.size := by omega
  clear hBA hfr hbW hgW hc hd hdv hX hlen hxl
  have hneq : ((F.size : Int) != (S.size : Int) + 8) = false := by have := HFS.out; simp; omega
  go_wp2_with fail
  clear hcv hcv2 hx hcell hfr0
  have HB3 : Hid (Below w.heap.size w (W.setCell ⟨G, 4 + n, none⟩ (.int .u8 (d.toNat : Int)))) := hid (HBW.out.setCell HS2.out _)
  have HG3 : Hid (G < (W.setCell ⟨G, 4 + n, none⟩ (.int .u8 (d.toNat : Int))).heap.size) := hid (by simpa using HG.out)
  generalize W.setCell ⟨G, 4 + n, none⟩ (.int .u8 (d.toNat : Int)) = W3 at HB3 HG3 HBA ⊢
  refine (open_gen X ⟨#[]⟩ X 5 HO.out (by omega) _).mono ?_
  rintro e w4 ⟨rfl, hb4⟩
  have HB4 := hid (HB3.out.trans (hb4.mono HB3.out.size))
  have hcv3 := str_of_bytes w4 G F.size K _ (HBA.out.below HG3.out hb4) HLN.out X HX.out
  clear hb4
  go_wp2
  go_ret
  exact ⟨rfl, HB4.out⟩

end Go.Proofs.Ytibnepjlddfnhaa
