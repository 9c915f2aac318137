/- Layer 4, code: the document's example; the walk of CodeTexts. -/
import Derived.Test.YtpjoeljjhgchpaaDoorCodD
namespace Go.Proofs.YtpjoeljjhgchpaaDoor
open Go.RowKit Go.Lib
set_option linter.unusedVariables false

def exL : List (Int × Int) := [(3, 0), (14, 0)]

theorem ex_fits : fitsL exL = true := by decide

theorem ex_text : (⟨#[73, 78, 59, 32, 69, 77, 73, 84]⟩ : ByteArray).data.toList = textL exL := by decide

theorem ex_str {T : ByteArray} (h : Hid ((⟨(outL exL).toArray⟩ : ByteArray) = T)) : T.toList = [73, 78, 59, 32, 69, 77, 73, 84] := by
  rw [toList_eq, ← h.out, textL_out ex_fits, ← ex_text]

set_option maxRecDepth 100000 in
set_option maxHeartbeats 2000000 in
theorem awake4 (w : World) (he : Env4 w) :
    Calls Tryd.prog 6 #[] w fun e w' => e = .returned (.bool true) ∧ Below w.heap.size w w' := by
  have HE := hid he; clear he
  go_enter Tryd.func6, Tryd.ntmps6
  go_wp2_with fail
  refine (cparse_any ⟨#[73, 78, 59, 32, 69, 77, 73, 84]⟩ (by decide) w HE.out).mono ?_
  rintro e w1 ⟨⟨v, l, r, rfl, hp, hv⟩, hb⟩
  obtain ⟨rfl, rfl⟩ := hp.of_text ex_fits ex_text
  clear hp
  have HV := hid hv
  obtain ⟨A, c, rfl, hc, hA⟩ := hv
  obtain ⟨b1, o1, rfl, hbB, hcell⟩ := hA (by decide)
  have c0 : w1.cell? ⟨b1, o1, none⟩ = some (.int .i64 3) := (hcell 0 (by decide)).1
  have c1 : w1.cell? ⟨b1, o1 + 2, none⟩ = some (.int .i64 14) := (hcell 1 (by decide)).1
  have HB := hid hb; clear hb hA hcell
  obtain ⟨T, hT⟩ : ∃ T : ByteArray, ⟨(outL exL).toArray⟩ = T := ⟨_, rfl⟩
  have HT := hid hT; clear hT
  have HE1 := hid (HE.out.below HB.out)
  have hlen : exL.length = 2 := rfl
  rw [hlen] at hc ⊢
  go_wp2_with fail
  refine (ctext_any _ exL T HT (by decide) _ (by have := HV.out; rw [hlen] at this; exact this) HE1.out).mono ?_
  rintro e w2 ⟨rfl, hb⟩
  have HB2 := hid (HB.out.trans (hb.mono HB.out.size)); clear hb
  have hTs := ex_str HT
  go_wp2_with fail
  go_ret
  exact ⟨rfl, HB2.out⟩

theorem right_from {W : World} (o a : Int) (b : Bool) (hb : Hid (rightI (o, a) = b)) (w : World) (h : Hid (Below W.heap.size W w)) :
    Calls Tryd.prog 10 #[val o a] w fun e w' => e = .returned (.bool b) ∧ Hid (Below W.heap.size W w') :=
  (right_any o a b hb w).mono fun e w' ⟨he, hw⟩ => ⟨he, hid (h.out.trans (hw.mono h.out.size))⟩

theorem refright_from {W : World} (o a : Int) (b : Bool) (hb : Hid (rightI (o, a) = b)) (w : World) (h : Hid (Below W.heap.size W w)) :
    Calls Tryd.prog 11 #[val o a] w fun e w' => e = .returned (.bool b) ∧ Hid (Below W.heap.size W w') :=
  (refright_any o a b hb w).mono fun e w' ⟨he, hw⟩ => ⟨he, hid (h.out.trans (hw.mono h.out.size))⟩

set_option maxRecDepth 100000 in
set_option maxHeartbeats 8000000 in
theorem law_ctexts (v : Value) (l : List (Int × Int)) (S : ByteArray) (w : World) (hv : SvIn w v l) (hS : S.size ≤ 9223372036854775807) (he : Env4 w) :
    Calls Tryd.prog 3 #[v, .string S] w fun e w' => e = .returned (.bool true) ∧ Below w.heap.size w w' := by
  have HE := hid he; clear he
  have hm := hv.most
  unfold maxLen at hm
  have HV := hid hv.row
  obtain ⟨⟨A, c, rfl, hc, hA⟩, _, _⟩ := hv
  have HA := hid hA; clear hA
  go_enter Tryd.func3, Tryd.ntmps3
  go_wp2_with fail
  refine (awake4 w HE.out).mono ?_
  rintro e w1 ⟨rfl, hb⟩
  have HW := hid hb; clear hb
  by_cases h60 : 60 < l.length
  · have d1 : decide ((60 : Int) < (l.length : Int)) = true := decide_eq_true (by omega)
    go_wp2_with fail
    go_ret
    exact ⟨rfl, HW.out⟩
  have d1 : decide ((60 : Int) < (l.length : Int)) = false := decide_eq_false (by omega)
  by_cases h1000 : 1000 < S.size
  · have d2 : decide ((1000 : Int) < (S.size : Int)) = true := decide_eq_true (by omega)
    go_wp2_with fail
    go_ret
    exact ⟨rfl, HW.out⟩
  have d2 : decide ((1000 : Int) < (S.size : Int)) = false := decide_eq_false (by omega)
  obtain ⟨T, hT⟩ : ∃ T : ByteArray, ⟨(outL l).toArray⟩ = T := ⟨_, rfl⟩
  have HT := hid hT; clear hT
  have hl : l.length ≤ 1000000000000 := by omega
  go_wp2_with fail
  clear d1 d2 hm
  refine (ctext_any _ l T HT hl _ (HV.out.here HW) (HE.out.below HW.out)).mono ?_
  rintro e w2 ⟨rfl, hb⟩
  have HW2 := hid (HW.out.trans (hb.mono HW.out.size)); clear hb HW
  cases hf : fitsL l with
  | false =>
    have HF := hid hf; clear hf
    go_wp2_with fail
    refine (fits_any _ l false HF hl _ (HV.out.here HW2)).mono ?_
    rintro e w3 ⟨rfl, hb⟩
    have HW3 := hid (HW2.out.trans (hb.mono HW2.out.size)); clear hb HW2
    go_wp2_with fail
    refine (reffits_any _ l false HF hl _ (HV.out.here HW3)).mono ?_
    rintro e w4 ⟨rfl, hb⟩
    have HW4 := hid (HW3.out.trans (hb.mono HW3.out.size)); clear hb HW3
    go_wp2_with fail
    go_loopw [31] (fun i wr => ∃ k : Nat, k ≤ l.length ∧ i = .int .i64 k ∧ Hid (Below w.heap.size w wr)) (fun i _ => l.length - (RowKit.intOf i).toNat)
    case atStart => exact ⟨0, Nat.zero_le _, rfl, HW4⟩
    clear HW4
    obtain ⟨k, hk, rfl, hbel⟩ := hrel
    by_cases hlt : k < l.length
    · obtain ⟨b1, o1, rfl, hbB, hcell⟩ := HA.out (by omega)
      obtain ⟨ca, cb⟩ := hcell k hlt
      obtain ⟨o, a, hoa⟩ := pair_of (p := l.getD k (0, 0))
      rw [hoa] at ca cb
      have ca' := (hbel.out.cell (p := ⟨b1, o1 + k * 2, none⟩) hbB).trans ca
      have cb' := (hbel.out.cell (p := ⟨b1, o1 + k * 2 + 1, none⟩) hbB).trans cb
      clear ca cb hoa hcell
      obtain ⟨β, hβ⟩ : ∃ β, rightI (o, a) = β := ⟨_, rfl⟩
      have Hβ := hid hβ; clear hβ
      have hββ : (β != β) = false := by simp
      go_wp2_with fail
      obtain ⟨V, hV, ⟨c0, c1⟩, l0, HBV⟩ := box_of' wr 27 (.int .i64 o) (.int .i64 a)
      rw [hV]; clear hV
      have hb0 : Hid (Below V.heap.size V V.drew) := hid (Below.refl _ V).drew
      go_region_law (first
        | (go_simp; go_at_call 10; (with_reducible refine (right_from (W := V) o a β Hβ _ ?_).mono ?_); assumption; rintro e w' ⟨rfl, hb⟩; obtain ⟨hc, hf⟩ := bcell hb.out)
        | (go_simp; go_at_call 11; (with_reducible refine (refright_from (W := V) o a β Hβ _ ?_).mono ?_); assumption; rintro e w' ⟨rfl, hb⟩; obtain ⟨hc, hf⟩ := bcell hb.out))
      all_goals
        go_wp2_with fail
        go_roundw
        case rel => exact ⟨k + 1, by omega, by go_num, hid (hbel.out.trans ((HBV.out.trans (hb.out.mono HBV.out.size)).mono hbel.out.size))⟩
        case measure => simp [RowKit.intOf]; omega
    · obtain rfl : (⟨#[]⟩ : ByteArray) = T := by rw [← HT.out, textL_out_not HF.out]
      go_wp2_with fail
      refine (reffits_any _ l false HF hl _ (HV.out.here hbel)).mono ?_
      rintro e w5 ⟨rfl, hb⟩
      have HW5 := hid (hbel.out.trans (hb.mono hbel.out.size)); clear hb hbel
      go_wp2_with fail
      refine (cparse_any S (by omega) _ (HE.out.below HW5.out)).mono ?_
      rintro e w9 ⟨⟨v9, l9, r9, rfl, hp9, hv9⟩, hb⟩
      have HW9 := hid (HW5.out.trans (hb.mono HW5.out.size))
      have HV9 := hid hv9
      clear hb HW5 hv9
      cases hp9 with
      | good _ hf9 ht9 =>
        have HF9 := hid hf9; have HT9 := hid ht9; clear hf9 ht9
        have HS9 : Hid ((⟨(textL l9).toArray⟩ : ByteArray) = S) := hid (by rw [← HT9.out])
        have hl9 : l9.length ≤ 1000000000000 := by have := ((fitsL_iff l9).1 HF9.out).1; omega
        go_wp2_with fail
        refine (reffits_any _ l9 true HF9 hl9 _ HV9.out).mono ?_
        rintro e wa ⟨rfl, hb⟩
        have HWa := hid (HW9.out.trans (hb.mono HW9.out.size))
        have HVa := hid (HV9.out.here (hid hb))
        clear hb HW9 HV9
        go_wp2_with fail
        refine (rtext_any _ l9 S HS9 HF9 _ HVa.out).mono ?_
        rintro e wb ⟨rfl, hb⟩
        have HWb := hid (HWa.out.trans (hb.mono HWa.out.size))
        clear hb HWa HVa
        have hss2 := str_beq (S := S) (T := S) rfl
        go_wp2_with fail
        go_ret
        exact ⟨rfl, HWb.out⟩
      | bad _ =>
        obtain ⟨A9, c9, rfl, _, _⟩ := HV9.out
        go_wp2_with fail
        go_ret
        exact ⟨rfl, HW9.out⟩
  | true =>
    have HF := hid hf; clear hf
    go_wp2_with fail
    refine (fits_any _ l true HF hl _ (HV.out.here HW2)).mono ?_
    rintro e w3 ⟨rfl, hb⟩
    have HW3 := hid (HW2.out.trans (hb.mono HW2.out.size)); clear hb HW2
    go_wp2_with fail
    refine (reffits_any _ l true HF hl _ (HV.out.here HW3)).mono ?_
    rintro e w4 ⟨rfl, hb⟩
    have HW4 := hid (HW3.out.trans (hb.mono HW3.out.size)); clear hb HW3
    go_wp2_with fail
    go_loopw [31] (fun i wr => ∃ k : Nat, k ≤ l.length ∧ i = .int .i64 k ∧ Hid (Below w.heap.size w wr)) (fun i _ => l.length - (RowKit.intOf i).toNat)
    case atStart => exact ⟨0, Nat.zero_le _, rfl, HW4⟩
    clear HW4
    obtain ⟨k, hk, rfl, hbel⟩ := hrel
    by_cases hlt : k < l.length
    · obtain ⟨b1, o1, rfl, hbB, hcell⟩ := HA.out (by omega)
      obtain ⟨ca, cb⟩ := hcell k hlt
      obtain ⟨o, a, hoa⟩ := pair_of (p := l.getD k (0, 0))
      rw [hoa] at ca cb
      have ca' := (hbel.out.cell (p := ⟨b1, o1 + k * 2, none⟩) hbB).trans ca
      have cb' := (hbel.out.cell (p := ⟨b1, o1 + k * 2 + 1, none⟩) hbB).trans cb
      clear ca cb hoa hcell
      obtain ⟨β, hβ⟩ : ∃ β, rightI (o, a) = β := ⟨_, rfl⟩
      have Hβ := hid hβ; clear hβ
      have hββ : (β != β) = false := by simp
      go_wp2_with fail
      obtain ⟨V, hV, ⟨c0, c1⟩, l0, HBV⟩ := box_of' wr 27 (.int .i64 o) (.int .i64 a)
      rw [hV]; clear hV
      have hb0 : Hid (Below V.heap.size V V.drew) := hid (Below.refl _ V).drew
      go_region_law (first
        | (go_simp; go_at_call 10; (with_reducible refine (right_from (W := V) o a β Hβ _ ?_).mono ?_); assumption; rintro e w' ⟨rfl, hb⟩; obtain ⟨hc, hf⟩ := bcell hb.out)
        | (go_simp; go_at_call 11; (with_reducible refine (refright_from (W := V) o a β Hβ _ ?_).mono ?_); assumption; rintro e w' ⟨rfl, hb⟩; obtain ⟨hc, hf⟩ := bcell hb.out))
      all_goals
        go_wp2_with fail
        go_roundw
        case rel => exact ⟨k + 1, by omega, by go_num, hid (hbel.out.trans ((HBV.out.trans (hb.out.mono HBV.out.size)).mono hbel.out.size))⟩
        case measure => simp [RowKit.intOf]; omega
    · have HT2 : Hid ((⟨(textL l).toArray⟩ : ByteArray) = T) := hid (by rw [← HT.out, textL_out HF.out])
      have hTs : T.size ≤ 1000 := by
        rw [← HT.out, size_mk]
        have := outL_len l
        omega
      go_wp2_with fail
      refine (reffits_any _ l true HF hl _ (HV.out.here hbel)).mono ?_
      rintro e w5 ⟨rfl, hb⟩
      have HX5 := hid (hbel.out.trans (hb.mono hbel.out.size)); clear hb hbel
      go_wp2_with fail
      refine (cparse_any T hTs _ (HE.out.below HX5.out)).mono ?_
      rintro e w6 ⟨⟨v6, l6, r6, rfl, hp6, hv6⟩, hb⟩
      obtain ⟨rfl, rfl⟩ := hp6.of_text HF.out (by rw [← HT2.out])
      have HX6 := hid (HX5.out.trans (hb.mono HX5.out.size))
      have HV6 := hid hv6
      clear hb HX5 hp6 hv6
      go_wp2_with fail
      refine (rtext_any _ l6 T HT2 HF _ (HV.out.here HX6)).mono ?_
      rintro e w7 ⟨rfl, hb⟩
      have HX7 := hid (HX6.out.trans (hb.mono HX6.out.size))
      have HV7 := hid (HV6.out.here (hid hb))
      clear hb HX6 HV6
      have hss := str_beq (S := T) (T := T) rfl
      go_wp2_with fail
      refine (same_any _ v6 l6 hl _ (HV.out.here HX7) HV7.out).mono ?_
      rintro e w8 ⟨rfl, hb⟩
      have HW5 := hid (HX7.out.trans (hb.mono HX7.out.size)); clear hb HX7 HV7
      go_wp2_with fail
      refine (cparse_any S (by omega) _ (HE.out.below HW5.out)).mono ?_
      rintro e w9 ⟨⟨v9, l9, r9, rfl, hp9, hv9⟩, hb⟩
      have HW9 := hid (HW5.out.trans (hb.mono HW5.out.size))
      have HV9 := hid hv9
      clear hb HW5 hv9
      cases hp9 with
      | good _ hf9 ht9 =>
        have HF9 := hid hf9; have HT9 := hid ht9; clear hf9 ht9
        have HS9 : Hid ((⟨(textL l9).toArray⟩ : ByteArray) = S) := hid (by rw [← HT9.out])
        have hl9 : l9.length ≤ 1000000000000 := by have := ((fitsL_iff l9).1 HF9.out).1; omega
        go_wp2_with fail
        refine (reffits_any _ l9 true HF9 hl9 _ HV9.out).mono ?_
        rintro e wa ⟨rfl, hb⟩
        have HWa := hid (HW9.out.trans (hb.mono HW9.out.size))
        have HVa := hid (HV9.out.here (hid hb))
        clear hb HW9 HV9
        go_wp2_with fail
        refine (rtext_any _ l9 S HS9 HF9 _ HVa.out).mono ?_
        rintro e wb ⟨rfl, hb⟩
        have HWb := hid (HWa.out.trans (hb.mono HWa.out.size))
        clear hb HWa HVa
        have hss2 := str_beq (S := S) (T := S) rfl
        go_wp2_with fail
        go_ret
        exact ⟨rfl, HWb.out⟩
      | bad _ =>
        obtain ⟨A9, c9, rfl, _, _⟩ := HV9.out
        go_wp2_with fail
        go_ret
        exact ⟨rfl, HW9.out⟩

end Go.Proofs.YtpjoeljjhgchpaaDoor
