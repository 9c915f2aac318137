/- Layer 4, code: the walk of CodeJoins. -/
import Derived.Test.YtpjoeljjhgchpaaDoorCodL
import Derived.Test.YtpjoeljjhgchpaaDoorCodS
namespace Go.Proofs.YtpjoeljjhgchpaaDoor
open Go.RowKit Go.Lib
set_option linter.unusedVariables false

theorem insCells_append (p q : List (Int × Int)) : insCells (p ++ q) = insCells p ++ insCells q := by simp [insCells]

/-- A slice's cells, where it lies. -/
theorem SlV.cells {w : World} {B : Nat} {A : Option Addr} {n c : Nat} {l : List (Int × Int)} (h : SlV w B (.slice A n c) l) : ∀ ad, A = some ad → ∀ j u, (insCells l)[j]? = some u → w.cell? (ad.add j) = some u := by
  intro ad hA j u hu
  obtain ⟨A', c', hv, hc, hz⟩ := h
  injection hv with h1 h2 h3
  subst h1
  have hj : j < (insCells l).length := by
    rcases Nat.lt_or_ge j (insCells l).length with h | h
    · exact h
    · rw [List.getElem?_eq_none h] at hu; cases hu
  rw [insCells_len] at hj
  obtain ⟨b, o, hA2, hb, hcell⟩ := hz (by omega)
  rw [hA] at hA2
  injection hA2 with hA2
  subst hA2
  obtain ⟨k, hk⟩ : ∃ k, j = k * 2 ∨ j = k * 2 + 1 := ⟨j / 2, by omega⟩
  obtain ⟨i0, i1⟩ := insCells_at l k (by omega)
  obtain ⟨c0, c1⟩ := hcell k (by omega)
  rw [addr_add]
  rcases hk with rfl | rfl
  · rw [i0] at hu; rw [c0]; exact hu
  · rw [i1] at hu; rw [← Nat.add_assoc, c1]; exact hu

theorem SlV.take {w : World} {B : Nat} {A : Option Addr} {n c : Nat} {l : List (Int × Int)} (h : SlV w B (.slice A n c) l) (k : Nat) (hk : k ≤ l.length) : SlV w B (.slice A k c) (l.take k) := by
  obtain ⟨A', c', hv, hc, hz⟩ := h
  injection hv with h1 h2 h3
  subst h1; subst h3
  have hl : (l.take k).length = k := by rw [List.length_take]; omega
  refine ⟨A, c, by rw [hl], by omega, fun hp => ?_⟩
  rw [hl] at hp ⊢
  obtain ⟨b, o, hA2, hb, hcell⟩ := hz (by omega)
  refine ⟨b, o, hA2, hb, fun j hj => ?_⟩
  have := hcell j (by omega)
  rw [show (l.take k).getD j (0, 0) = l.getD j (0, 0) by simp [List.getD_eq_getElem?_getD, hj]]
  exact this

set_option maxRecDepth 100000 in
set_option maxHeartbeats 1500000 in
theorem law_cjoins (v1 : Value) (p : List (Int × Int)) (v2 : Value) (q : List (Int × Int)) (cut : Int) (w : World) (hv1 : SnIn w v1 p) (hv2 : SnIn w v2 q) (hcut : (Lit.int .u8 cut).wf = true) (he : Env4 w) :
    Calls Tryd.prog 5 #[v1, v2, .int .u8 cut] w fun e w' => e = .returned (.bool true) ∧ Below w.heap.size w w' := by
  have HE := hid he; clear he
  have hm1 := hv1.most
  have hm2 := hv2.most
  unfold maxLen at hm1 hm2
  have hr1 := hv1.row; have hr2 := hv2.row
  obtain ⟨A1, c1, rfl, hc1, _⟩ := hv1.row
  obtain ⟨A2, c2, rfl, hc2, _⟩ := hv2.row
  have hN1 : A1 = none → p.length = 0 ∧ c1 = 0 := fun h => hv1.nil _ _ (by rw [h])
  have hN2 : A2 = none → q.length = 0 ∧ c2 = 0 := fun h => hv2.nil _ _ (by rw [h])
  clear hv1 hv2
  obtain ⟨n1, hn1⟩ : ∃ n, p.length = n := ⟨_, rfl⟩
  obtain ⟨n2, hn2⟩ : ∃ n, q.length = n := ⟨_, rfl⟩
  rw [hn1] at hm1 hc1 hr1 hN1 ⊢
  rw [hn2] at hm2 hc2 hr2 hN2 ⊢
  have HV1 := hid hr1; have HV2 := hid hr2; have HN1 := hid hN1; have HN2 := hid hN2
  have HL1 := hid hn1; have HL2 := hid hn2
  clear hr1 hr2 hN1 hN2
  have hcu : 0 ≤ cut ∧ cut ≤ 255 := by
    simp [Lit.wf, IntKind.min, IntKind.max, IntKind.signed, IntKind.bits] at hcut
    omega
  clear hcut
  obtain ⟨hcu0, hcu1⟩ := hcu
  obtain ⟨ct, rfl⟩ : ∃ k : Nat, cut = (k : Int) := ⟨cut.toNat, by omega⟩
  go_enter Tryd.func5, Tryd.ntmps5
  go_wp2_with fail
  refine (awake4 w HE.out).mono ?_
  rintro e w1 ⟨rfl, hb⟩
  have HW := hid hb; clear hb
  by_cases h60 : 60 < n1
  · have d1 : decide ((60 : Int) < (n1 : Int)) = true := decide_eq_true (by omega)
    go_wp2_with fail
    go_ret
    exact ⟨rfl, HW.out⟩
  have d1 : decide ((60 : Int) < (n1 : Int)) = false := decide_eq_false (by omega)
  by_cases h61 : 60 < n2
  · have d2 : decide ((60 : Int) < (n2 : Int)) = true := decide_eq_true (by omega)
    go_wp2_with fail
    go_ret
    exact ⟨rfl, HW.out⟩
  have d2 : decide ((60 : Int) < (n2 : Int)) = false := decide_eq_false (by omega)
  have hl1 : p.length ≤ 1000000000000 := by omega
  have hl2 : q.length ≤ 1000000000000 := by omega
  clear hm1 hm2 hn1 hn2
  cases hf1 : fitsL p with
  | false =>
    have HF1 := hid hf1; clear hf1
    go_wp2_with fail
    refine (fits_any _ p false HF1 hl1 _ (HV1.out.here HW)).mono ?_
    rintro e w2 ⟨rfl, hb⟩
    have HW2 := hid (HW.out.trans (hb.mono HW.out.size)); clear hb HW
    go_wp2_with fail
    go_ret
    exact ⟨rfl, HW2.out⟩
  | true =>
    have HF1 := hid hf1; clear hf1
    go_wp2_with fail
    refine (fits_any _ p true HF1 hl1 _ (HV1.out.here HW)).mono ?_
    rintro e w2 ⟨rfl, hb⟩
    have HW2 := hid (HW.out.trans (hb.mono HW.out.size)); clear hb HW
    cases hf2 : fitsL q with
    | false =>
      have HF2 := hid hf2; clear hf2
      go_wp2_with fail
      refine (fits_any _ q false HF2 hl2 _ (HV2.out.here HW2)).mono ?_
      rintro e w3 ⟨rfl, hb⟩
      have HW3 := hid (HW2.out.trans (hb.mono HW2.out.size)); clear hb HW2
      go_wp2_with fail
      go_ret
      exact ⟨rfl, HW3.out⟩
    | true =>
      have HF2 := hid hf2; clear hf2
      go_wp2_with fail
      refine (fits_any _ q true HF2 hl2 _ (HV2.out.here HW2)).mono ?_
      rintro e w3 ⟨rfl, hb⟩
      have HW3 := hid (HW2.out.trans (hb.mono HW2.out.size)); clear hb HW2
      clear d1 d2
      obtain ⟨i0, hi, hz0, hz1, hz2⟩ := info_parts insInfo
      have HW4 := hid (HW3.out.alloc HW3.out.size (.cells #[] 27))
      have HO4 : Hid ((w3.alloc (.cells #[] 27)).ownsRow w3.heap.size 27 2 (.slice (some ⟨w3.heap.size, 0, none⟩) 0 0) 0 []) := hid (World.ownsRow_lit (base := w3.heap.size) (size := 2) (e := 27) w3 #[] 0 (Nat.le_refl _) (by unfold maxLen; omega) rfl)
      have HC1 := hid (HV1.out.here HW4).cells
      have HS4 : w3.heap.size ≤ (w3.alloc (.cells #[] 27)).heap.size := by simp
      go_wp2_with (first | (at_builtin; refine wpList_append_maybe rfl (.tmp 29) (.tmp 30) 22 rfl w3.heap.size 27 i0 (.agg #[.int .i64 0, .int .i64 0]) 2 16 Tryd.underlying22 hi hz0 hz1 hz2 rfl (by decide) _ _ _ rfl HO4.out A1 n1 c1 (insCells p) rfl HN1.out (by rw [insCells_len, HL1.out]) HC1.out (insCells_one _) (by unfold maxLen; omega) (by omega) HS4 ?_; intro vb w5 hown5 hg5; simp only [Nat.zero_add, List.nil_append] at hown5; have HO5 := hid hown5; have HW5 := hid (HW4.out.grown hg5 HW4.out.size (fun k hk => Nat.le_trans HW3.out.size (HO4.out.lt k hk).1)); have HS5 := Nat.le_trans HS4 hg5.size; have HC2 := hid (HV2.out.here HW5).cells; clear hg5 hown5) | (at_builtin; refine wpList_append_maybe rfl (.tmp 31) (.tmp 32) 22 rfl w3.heap.size 27 i0 (.agg #[.int .i64 0, .int .i64 0]) 2 16 Tryd.underlying22 hi hz0 hz1 hz2 rfl (by decide) _ _ _ rfl HO5.out A2 n2 c2 (insCells q) rfl HN2.out (by rw [insCells_len, HL2.out]) HC2.out (insCells_one _) (by unfold maxLen; omega) (by omega) HS5 ?_; intro vc w6 hown6 hg6; have HO6 := hid hown6; have HW6 := hid (HW5.out.grown hg6 HW5.out.size (fun k hk => Nat.le_trans HW3.out.size (HO5.out.lt k hk).1)); clear hg6 hown6))
      obtain ⟨n, hn⟩ : ∃ n, n1 + n2 = n := ⟨_, rfl⟩
      obtain ⟨r, hr⟩ : ∃ r, p ++ q = r := ⟨_, rfl⟩
      have hrn : r.length = n := by rw [← hr, List.length_append, HL1.out, HL2.out, hn]
      have hO := HO6.out
      rw [← insCells_append, hr, hn] at hO
      have HR := hid hr; have HN := hid hn
      have hn120 : n ≤ 120 := by omega
      clear hr hn HO6 HO5 HC1 HC2
      obtain ⟨A, c, rfl⟩ := own_slice hO
      have hO2 : w6.ownsRow w3.heap.size 27 2 (.slice A n c) r.length (insCells r) := by rw [hrn]; exact hO
      have HV := hid (SlV.of_own hO2)
      by_cases hn24 : 24 < n
      · have d1 : decide ((24 : Int) < (n : Int)) = true := decide_eq_true (by omega)
        have HFR : Hid (fitsL r = false) := hid (fits_long (by omega))
        go_simp
        go_wp2_with fail
        refine (fits_any _ r false HFR (by omega) _ (by have := HV.out; exact this)).mono ?_
        rintro e w7 ⟨rfl, hb⟩
        have HW7 := hid (HW6.out.trans (hb.mono HW6.out.size)); clear hb HW6
        go_wp2_with fail
        go_ret
        exact ⟨rfl, HW7.out⟩
      have d1 : decide ((24 : Int) < (n : Int)) = false := decide_eq_false (by omega)
      have HFR : Hid (fitsL r = true) := hid (by rw [← HR.out]; exact fits_append HF1.out HF2.out (by rw [HR.out]; omega))
      obtain ⟨T1, hT1⟩ : ∃ T : ByteArray, ⟨(outL p).toArray⟩ = T := ⟨_, rfl⟩
      obtain ⟨T2, hT2⟩ : ∃ T : ByteArray, ⟨(outL q).toArray⟩ = T := ⟨_, rfl⟩
      have s1 : T1.size ≤ 1000 := by
        rw [← hT1, size_mk]; have := outL_len p; omega
      have s2 : T2.size ≤ 1000 := by
        rw [← hT2, size_mk]; have := outL_len q; omega
      obtain ⟨U, hU⟩ : ∃ U : ByteArray, T1 ++ ⟨#[59, 32]⟩ = U := ⟨_, rfl⟩
      have s3 : U.size ≤ 1002 := by
        rw [← hU, ByteArray.size_append]
        have : (⟨#[59, 32]⟩ : ByteArray).size = 2 := rfl
        omega
      obtain ⟨W, hW⟩ : ∃ W : ByteArray, U ++ T2 = W := ⟨_, rfl⟩
      obtain ⟨X, hX⟩ : ∃ X : ByteArray, T1 ++ T2 = X := ⟨_, rfl⟩
      have m1 : ¬ 9223372036854775807 < T1.size + 2 := by omega
      have m2 : ¬ 9223372036854775807 < U.size + T2.size := by omega
      have m3 : ¬ 9223372036854775807 < T1.size + T2.size := by omega
      have HT1 := hid hT1; have HT2 := hid hT2
      have HXl : Hid (X.data.toList = textL p ++ textL q) := hid (by rw [← hX, bytes_append, ← hT1, ← hT2, ← textL_out HF1.out, ← textL_out HF2.out])
      have HWl : Hid (W.data.toList = textL p ++ ([59, 32] ++ textL q)) := hid (by rw [← hW, ← hU, bytes_append, bytes_append, ← hT1, ← hT2, ← textL_out HF1.out, ← textL_out HF2.out]; simp)
      clear hT1 hT2
      obtain ⟨k, hk⟩ : ∃ k, ct % (n + 1) = k := ⟨_, rfl⟩
      have hkn : k ≤ n := by have := Nat.mod_lt ct (show 0 < n + 1 by omega); omega
      have hrem : Int.tmod (ct : Int) ((n : Int) + 1) = (k : Int) := by rw [← hk]; rfl
      have hrem2 : (ct : Int) % ((n : Int) + 1) = (k : Int) := by rw [← hk]; rfl
      clear hk
      have hnc : n ≤ c := by
        rcases hO.2 with ⟨h, h0⟩ | ⟨g, cap, cur, h, _, _, hc, _⟩
        · omega
        · injection h with _ _ h3; omega
      have k0 : (0 : Int) ≤ (k : Int) := by omega
      have k1 : (k : Int) ≤ (c : Int) := by omega
      have nz : ((n : Int) + 1 == 0) = false := by simp; omega
      have nz2 : ¬ ((n : Int) + 1 = 0) := by omega
      clear hO hO2
      go_simp
      go_wp2_with fail
      refine (ctext_any _ p T1 HT1 hl1 _ (HV1.out.here HW6) (HE.out.below HW6.out)).mono ?_
      rintro e w7 ⟨rfl, hb⟩
      have HW7 := hid (HW6.out.trans (hb.mono HW6.out.size))
      have HV7 := hid (HV.out.here (hid hb)); clear hb HW6 HV
      go_wp2_with fail
      refine (ctext_any _ q T2 HT2 hl2 _ (HV2.out.here HW7) (HE.out.below HW7.out)).mono ?_
      rintro e w8 ⟨rfl, hb⟩
      have HW8 := hid (HW7.out.trans (hb.mono HW7.out.size))
      have HV8 := hid (HV7.out.here (hid hb)); clear hb HW7 HV7
      have hr24 : r.length ≤ 1000000000000 := by omega
      have HFT := hid (fits_take HFR.out k)
      have htl : (r.take k).length ≤ 1000000000000 := by rw [List.length_take]; omega
      have hwss := str_beq (S := W) (T := W) rfl
      have hxss := str_beq (S := X) (T := X) rfl
      by_cases hp0 : n1 = 0
      · subst hp0
        have HXT : Hid ((⟨(outL r).toArray⟩ : ByteArray) = X) := hid (by
          have : p = [] := List.eq_nil_of_length_eq_zero HL1.out
          rw [textL_out HFR.out, ← mk_data X, HXl.out, ← HR.out, this]; rfl)
        go_wp2_with fail
        refine (ctext_any _ p T1 HT1 hl1 _ (HV1.out.here HW8) (HE.out.below HW8.out)).mono ?_
        rintro e w9 ⟨rfl, hb⟩
        have HW9 := hid (HW8.out.trans (hb.mono HW8.out.size))
        have HV9 := hid (HV8.out.here (hid hb)); clear hb HW8 HV8
        go_wp2_with fail
        refine (ctext_any _ q T2 HT2 hl2 _ (HV2.out.here HW9) (HE.out.below HW9.out)).mono ?_
        rintro e wa ⟨rfl, hb⟩
        have HW8 := hid (HW9.out.trans (hb.mono HW9.out.size))
        have HV8 := hid (HV9.out.here (hid hb)); clear hb HW9 HV9
        go_wp2_with fail
        refine (ctext_any _ r X HXT hr24 _ HV8.out (HE.out.below HW8.out)).mono ?_
        rintro e wb ⟨rfl, hb⟩
        have HWb := hid (HW8.out.trans (hb.mono HW8.out.size))
        have HVb := hid (HV8.out.here (hid hb)); clear hb HW8 HV8
        have HVk := hid (HVb.out.take k (by omega))
        go_wp2_with fail
        refine (fits_any _ (r.take k) true HFT htl _ HVk.out).mono ?_
        rintro e wc ⟨rfl, hb⟩
        have HWc := hid (HWb.out.trans (hb.mono HWb.out.size)); clear hb HWb
        go_wp2_with fail
        go_ret
        exact ⟨rfl, HWc.out⟩
      have z1 : ((n1 : Int) == 0) = false := by simp; omega
      by_cases hq0 : n2 = 0
      · subst hq0
        have HXT : Hid ((⟨(outL r).toArray⟩ : ByteArray) = X) := hid (by
          have : q = [] := List.eq_nil_of_length_eq_zero HL2.out
          rw [textL_out HFR.out, ← mk_data X, HXl.out, ← HR.out, this]; simp [textL_nil])
        go_wp2_with fail
        refine (ctext_any _ p T1 HT1 hl1 _ (HV1.out.here HW8) (HE.out.below HW8.out)).mono ?_
        rintro e w9 ⟨rfl, hb⟩
        have HW9 := hid (HW8.out.trans (hb.mono HW8.out.size))
        have HV9 := hid (HV8.out.here (hid hb)); clear hb HW8 HV8
        go_wp2_with fail
        refine (ctext_any _ q T2 HT2 hl2 _ (HV2.out.here HW9) (HE.out.below HW9.out)).mono ?_
        rintro e wa ⟨rfl, hb⟩
        have HW8 := hid (HW9.out.trans (hb.mono HW9.out.size))
        have HV8 := hid (HV9.out.here (hid hb)); clear hb HW9 HV9
        go_wp2_with fail
        refine (ctext_any _ r X HXT hr24 _ HV8.out (HE.out.below HW8.out)).mono ?_
        rintro e wb ⟨rfl, hb⟩
        have HWb := hid (HW8.out.trans (hb.mono HW8.out.size))
        have HVb := hid (HV8.out.here (hid hb)); clear hb HW8 HV8
        have HVk := hid (HVb.out.take k (by omega))
        go_wp2_with fail
        refine (fits_any _ (r.take k) true HFT htl _ HVk.out).mono ?_
        rintro e wc ⟨rfl, hb⟩
        have HWc := hid (HWb.out.trans (hb.mono HWb.out.size)); clear hb HWb
        go_wp2_with fail
        go_ret
        exact ⟨rfl, HWc.out⟩
      have z2 : ((n2 : Int) == 0) = false := by simp; omega
      have HWT : Hid ((⟨(outL r).toArray⟩ : ByteArray) = W) := hid (by
        have e1 : p ≠ [] := fun e => hp0 (by rw [← HL1.out, e]; rfl)
        have e2 : q ≠ [] := fun e => hq0 (by rw [← HL2.out, e]; rfl)
        rw [textL_out HFR.out, ← mk_data W, HWl.out, ← HR.out, textL_append e1 e2])
      go_wp2_with fail
      refine (ctext_any _ r W HWT hr24 _ HV8.out (HE.out.below HW8.out)).mono ?_
      rintro e wb ⟨rfl, hb⟩
      have HWb := hid (HW8.out.trans (hb.mono HW8.out.size))
      have HVb := hid (HV8.out.here (hid hb)); clear hb HW8 HV8
      have HVk := hid (HVb.out.take k (by omega))
      go_wp2_with fail
      refine (fits_any _ (r.take k) true HFT htl _ HVk.out).mono ?_
      rintro e wc ⟨rfl, hb⟩
      have HWc := hid (HWb.out.trans (hb.mono HWb.out.size)); clear hb HWb
      go_wp2_with fail
      go_ret
      exact ⟨rfl, HWc.out⟩

end Go.Proofs.YtpjoeljjhgchpaaDoor
