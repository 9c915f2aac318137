/- Layer 3, gauss: the walk of GaussTexts. -/
import Derived.Test.YtgkhmhbmdmjacaaDoorGauD
import Derived.Test.YtgkhmhbmdmjacaaDoorGauR
namespace Go.Proofs.YtgkhmhbmdmjacaaDoor
open Go.RowKit Go.Lib
set_option linter.unusedVariables false

theorem parse_text {x y : Int} {T : ByteArray} (hx : into x = x) (hy : into y = y) (hT : (⟨(textOf x y).toArray⟩ : ByteArray) = T) {v : Value} (h : ParseIs T.data.toList v) : v = .tuple #[val x y, .int .i64 0] := by
  have hl : T.data.toList = textOf x y := by rw [← hT]
  cases h with
  | good m n hm hn e =>
    obtain ⟨e1, e2⟩ := text_inj (hx ▸ into_small x) (hy ▸ into_small y) (hm ▸ into_small m) (hn ▸ into_small n) (hl.symm.trans e)
    rw [e1, e2]
  | bad h => exact absurd hl (h x y hx hy)

theorem text_size {x y : Int} {T : ByteArray} (hx : into x = x) (hy : into y = y) (hT : (⟨(textOf x y).toArray⟩ : ByteArray) = T) : T.size ≤ 44 := by
  have h := text_len (hx ▸ into_small x : Small x) (hy ▸ into_small y : Small y)
  rw [← hT]
  show (textOf x y).toArray.size ≤ 44
  simpa using h

theorem neq_same (a b : Int) (w : World) : (binOp .neq 23 (val a b) (val a b)).run Tryd.prog w = .ok (.bool false) w := by
  rw [run_neq_struct, run_equalIn_struct w 9999 23 _ _ (by kernel_rfl) (by kernel_rfl)]
  have hf : (Tryd.prog.fieldsOf 23).toList = [{ name := "Re", type := 3, offset := 0, embedded := false, tag := "", pkgPath := "", byteOffset := 0 }, { name := "Im", type := 3, offset := 1, embedded := false, tag := "", pkgPath := "", byteOffset := 8 }] := by kernel_rfl
  rw [hf]
  simp [Op.eqFields, part, isAgg, go_sem, Tryd.underlying3]

theorem parse_ways {l : List UInt8} {v : Value} (h : ParseIs l v) : (∃ m n, into m = m ∧ into n = n ∧ l = textOf m n ∧ v = .tuple #[val m n, .int .i64 0]) ∨ v = .tuple #[val 0 0, .int .i64 4] := by
  cases h with
  | good m n a b c => exact .inl ⟨m, n, a, b, c, rfl⟩
  | bad _ => exact .inr rfl

/-- The slots of the last region. -/
def slotsZ (g9 : Nat) (m n : Int) (S : ByteArray) : List Kd :=
  [.any, .is (.string S), .any, .any, .is (.bool true), .any, .any, .any, .any, .is (.pointer (some ⟨g9, 0, none⟩)), .any, .any, .any, .any, .any, .any, .any, .any, .any, .any, .any, .any, .any, .any, .any, .any, .any, .any, .any, .any, .any, .any, .any, .any, .any, .any, .any, .any, .any, .any, .any, .any, .any, .any, .any, .any, .any, .any, .any, .any, .any, .any, .any, .any, .any, .is (.pointer (some ⟨g9, 0, none⟩)), .is (.int .i64 m), .is (.pointer (some ⟨g9, 1, none⟩)), .is (.int .i64 n), .is (val m n), .is (val m n), .is (.bool true), .is (.bool true), .is (val m n), .is (.string S), .is (.string S), .is (.bool true), .is (.bool true)]

set_option maxRecDepth 100000 in
set_option maxHeartbeats 4000000 in
theorem law_texts (a1 a2 : Int) (S : ByteArray) (w : World) (ha1 : (Lit.int .i64 a1).wf = true) (ha2 : (Lit.int .i64 a2).wf = true) (hS : S.size ≤ 9223372036854775807) (he : Env w) :
    Calls Tryd.prog 3 #[val a1 a2, .string S] w fun e w' => e = .returned (.bool true) ∧ Below w.heap.size w w' := by
  have IA : Hid (I64 a1 ∧ I64 a2) := hid ⟨i64_of ha1, i64_of ha2⟩
  clear ha1 ha2
  have HE := hid he; clear he
  obtain ⟨x1, hx1⟩ : ∃ x, into a1 = x := ⟨_, rfl⟩
  obtain ⟨x2, hx2⟩ : ∃ x, into a2 = x := ⟨_, rfl⟩
  have HX1 := hid hx1; have HX2 := hid hx2
  have JX1 : Hid (into x1 = x1) := hid (by rw [← hx1, into_into])
  have JX2 : Hid (into x2 = x2) := hid (by rw [← hx2, into_into])
  clear hx1 hx2
  go_enter Tryd.func3, Tryd.ntmps3
  go_wp2_with fail
  obtain ⟨W0, hW, ⟨k1, k2⟩, l1, HW⟩ := box_of w 23 (.int .i64 a1) (.int .i64 a2)
  rw [hW]; clear hW
  refine (awake3 W0).mono ?_
  rintro e V ⟨rfl, hb⟩
  obtain ⟨hc, hf⟩ := bcell hb
  have k1 := (hc _ _ l1).trans k1
  have k2 := (hc _ _ l1).trans k2
  have l1 := Nat.lt_of_lt_of_le l1 hb.size
  have HV := hid (HW.out.trans (hb.mono HW.out.size))
  have HEV := hid (HE.out.below HV.out)
  clear hc hf hb HW
  generalize w.heap.size = n0 at k1 k2 l1 ⊢
  by_cases hlen : 100 < S.size
  · have d1 : decide ((100 : Int) < (S.size : Int)) = true := decide_eq_true (by omega)
    go_wp2_with fail
    go_ret
    exact ⟨rfl, HV.out⟩
  have d1 : decide ((100 : Int) < (S.size : Int)) = false := decide_eq_false (by omega)
  go_wp2_with fail
  clear d1
  refine (refof_pq a1 a2 x1 x2 HX1 HX2 _).mono ?_
  rintro e w1 ⟨rfl, hb⟩
  obtain ⟨hc, hf⟩ := bcell hb
  have k1 := (hc _ _ l1).trans k1
  have k2 := (hc _ _ l1).trans k2
  have l1 := Nat.lt_of_lt_of_le l1 hb.size
  have HW1 := hid (HV.out.trans (hb.mono HV.out.size))
  have HE1 := hid (HEV.out.below hb)
  clear hc hf hb HV HEV
  go_wp2_with fail
  obtain ⟨W1, hW, ⟨j1, j2⟩, l2, HB⟩ := box_of w1 23 (.int .i64 x1) (.int .i64 x2)
  rw [hW]; clear hW
  obtain ⟨hc, hf⟩ := bcell HB.out
  have k1 := (hc _ _ l1).trans k1
  have k2 := (hc _ _ l1).trans k2
  have l1 := Nat.lt_of_lt_of_le l1 HB.out.size
  have HW2 := hid (HW1.out.trans (HB.out.mono HW1.out.size))
  have HE2 := hid (HE1.out.below HB.out)
  generalize w1.heap.size = g5 at j1 j2 l2 ⊢
  clear hc hf HB HW1 HE1
  obtain ⟨T, hT⟩ : ∃ S : ByteArray, (⟨(textOf x1 x2).toArray⟩ : ByteArray) = S := ⟨_, rfl⟩
  have HT := hid hT
  have HTs := text_size JX1.out JX2.out hT
  clear hT
  refine (text_any a1 a2 IA.out.1 IA.out.2 T (hid (by rw [HX1.out, HX2.out]; exact HT.out)) _ HE2.out.tab).mono ?_
  rintro e w3 ⟨rfl, hb⟩
  obtain ⟨hc, hf⟩ := bcell hb
  have k1 := (hc _ _ l1).trans k1
  have k2 := (hc _ _ l1).trans k2
  have l1 := Nat.lt_of_lt_of_le l1 hb.size
  have j1 := (hc _ _ l2).trans j1
  have j2 := (hc _ _ l2).trans j2
  have l2 := Nat.lt_of_lt_of_le l2 hb.size
  have HW3 := hid (HW2.out.trans (hb.mono HW2.out.size))
  have HE3 := hid (HE2.out.below hb)
  clear hc hf hb HW2 HE2
  go_wp2_with fail
  refine (parse_any T (by omega) _ HE3.out).mono ?_
  rintro e w4 ⟨⟨v, rfl, hp⟩, hb⟩
  obtain rfl := parse_text JX1.out JX2.out HT.out hp
  clear hp
  obtain ⟨hc, hf⟩ := bcell hb
  have k1 := (hc _ _ l1).trans k1
  have k2 := (hc _ _ l1).trans k2
  have l1 := Nat.lt_of_lt_of_le l1 hb.size
  have j1 := (hc _ _ l2).trans j1
  have j2 := (hc _ _ l2).trans j2
  have l2 := Nat.lt_of_lt_of_le l2 hb.size
  have HW4 := hid (HW3.out.trans (hb.mono HW3.out.size))
  have HE4 := hid (HE3.out.below hb)
  clear hc hf hb HW3 HE3
  go_wp2_with fail
  obtain ⟨W4, hW, ⟨i1, i2⟩, l3, HB⟩ := box_of w4 23 (.int .i64 x1) (.int .i64 x2)
  rw [hW]; clear hW
  obtain ⟨hc, hf⟩ := bcell HB.out
  have j1 := (hc _ _ l2).trans j1
  have j2 := (hc _ _ l2).trans j2
  have l2 := Nat.lt_of_lt_of_le l2 HB.out.size
  have HW5 := hid (HW4.out.trans (HB.out.mono HW4.out.size))
  have HE5 := hid (HE4.out.below HB.out)
  generalize w4.heap.size = g7 at i1 i2 l3 ⊢
  clear hc hf HB HW4 HE4 k1 k2 l1
  refine (reftext_any x1 x2 (JX1.out ▸ into_small x1) (JX2.out ▸ into_small x2) T HT _).mono ?_
  rintro e w5 ⟨rfl, hb⟩
  obtain ⟨hc, hf⟩ := bcell hb
  have j1 := (hc _ _ l2).trans j1
  have j2 := (hc _ _ l2).trans j2
  have i1 := (hc _ _ l3).trans i1
  have i2 := (hc _ _ l3).trans i2
  have HW6 := hid (HW5.out.trans (hb.mono HW5.out.size))
  have HE6 := hid (HE5.out.below hb)
  clear hc hf hb HW5 HE5 l2 l3
  have hns := neq_same
  have hss := str_beq (S := T) (T := T) rfl
  go_wp2_with fail
  refine (parse_any S (by omega) _ HE6.out).mono ?_
  rintro e w6 ⟨⟨v, rfl, hp⟩, hb⟩
  have HW7 := hid (HW6.out.trans (hb.mono HW6.out.size))
  have HE7 := hid (HE6.out.below hb)
  clear hb HW6 HE6 j1 j2 i1 i2 hns hss
  have HZ := hid (parse_ways hp); clear hp
  rcases HZ.out with ⟨m, n, hm, hn, hl, rfl⟩ | rfl
  · have HM := hid hm; have HN := hid hn; have HL := hid hl
    clear hm hn hl HZ
    go_wp2_with fail
    obtain ⟨X, hW, ⟨q1, q2⟩, l9, HB⟩ := box_of w6 23 (.int .i64 m) (.int .i64 n)
    rw [hW]; clear hW
    have HX := hid (HW7.out.trans (HB.out.mono HW7.out.size))
    generalize w6.heap.size = g9 at q1 q2 l9 ⊢
    clear HB HW7 HE7
    have HSS : Hid ((⟨(textOf m n).toArray⟩ : ByteArray) = S) := hid (by
      rw [← HL.out])
    have hss := str_beq (S := S) (T := S) rfl
    have heq := eql_same
    refine region_all (T := fun k => ((slotsZ g9 m n S).getD k .any).ok) (G := fun w' => Hid (Below X.heap.size X w')) (bs := [1, 9]) 68 (by kernel_rfl) rfl (by kernel_rfl) (fun k u w w' => Kd.stable _ u w w') (hid (Below.refl _ _).drew) ?_ ?_ ?_
    · refine List.forall_mem_cons.2 ⟨rfl, List.forall_mem_cons.2 ⟨rfl, ?_⟩⟩
      intro k hk; cases hk
    · repeat' (first | exact StepAll.nil | refine StepAll.append ?_ ?_ | refine StepAll.cons ?_ ?_)
      all_goals first
        | (refine .inl ⟨guard_none rfl, ?_⟩)
        | (refine .inl ⟨guard_some rfl rfl (fun u w h => h), ?_⟩)
      all_goals intro K a w' hK hG H
      all_goals obtain ⟨hc, hf⟩ := bcell hG.out
      all_goals first
        | (obtain ⟨h1, h2, -⟩ := H; change a.tmps.getD _ undef = _ at h1; have g1 := h1; rw [Array.getD_eq_getD_getElem?] at g1; change a.tmps.getD _ undef = _ at h2; have g2 := h2; rw [Array.getD_eq_getD_getElem?] at g2)
        | (obtain ⟨h1, -⟩ := H; change a.tmps.getD _ undef = _ at h1; have g1 := h1; rw [Array.getD_eq_getD_getElem?] at g1)
        | skip
      all_goals go_simp
      all_goals first
        | (go_at_call 6; (with_reducible refine (refof_pq m n m n HM HN _).mono ?_); (rintro e w'' ⟨rfl, hb⟩; exact hK _ _ (fun d hd => by cases hd; exact rfl) (hid (hG.out.trans (hb.mono hG.out.size))) hb))
        | (go_at_call 9; (with_reducible refine (reftext_any m n (HM.out ▸ into_small m) (HN.out ▸ into_small n) S HSS _).mono ?_); (rintro e w'' ⟨rfl, hb⟩; exact hK _ _ (fun d hd => by cases hd; exact rfl) (hid (hG.out.trans (hb.mono hG.out.size))) hb))
        | exact hK _ _ (fun d hd => by cases hd; exact rfl) hG (Below.refl _ _)
        | skip
    · intro a w' hd _ hG _ hval
      have h4 : a.tmps.getD 4 undef = .bool true := hval 4 (by kernel_rfl)
      clear hval
      rw [Array.getD_eq_getD_getElem?] at h4
      go_wp2
      exact bodyPost_ret (v := .bool true) (by simp [results, Tryd.results3, go_sem, h4]) hd ⟨rfl, HX.out.trans (hG.out.mono HX.out.size)⟩
  · clear HZ
    have heq := eql_same
    go_wp2_with fail
    go_ret
    exact ⟨rfl, HW7.out.alloc HW7.out.size _⟩

end Go.Proofs.YtgkhmhbmdmjacaaDoor
