/- Layer 3, gauss: a contract for Parse. -/
import Derived.Test.YtgkhmhbmdmjacaaDoorGauY
import Derived.Lib.AtoiErrMem
namespace Go.Proofs.YtgkhmhbmdmjacaaDoor
open Go.RowKit Go.Lib
set_option linter.unusedVariables false

/-- What the library's package-level variables hold. -/
structure Env (w : World) : Prop where
  tab : Tab w
  utf : Lib.Utf8Tabs 4 5 w
  syn : ∃ tp p, w.var? Tryd.prog "strconv.ErrSyntax" = some #[.iface tp p]
  ran : ∃ tp p, w.var? Tryd.prog "strconv.ErrRange" = some #[.iface tp p]

theorem gSyn : Tryd.prog.globalNamed "strconv.ErrSyntax" = some 1 := by kernel_rfl

theorem gRan : Tryd.prog.globalNamed "strconv.ErrRange" = some 2 := by kernel_rfl

theorem Env.below {w w' : World} (h : Env w) (hb : Below w.heap.size w w') : Env w' := by
  refine ⟨h.tab.below hb, Go.Proofs.Utf8Tabs_below h.utf hb, ?_, ?_⟩
  · obtain ⟨tp, p, e⟩ := h.syn
    exact ⟨tp, p, var_stays e gSyn hb⟩
  · obtain ⟨tp, p, e⟩ := h.ran
    exact ⟨tp, p, var_stays e gRan hb⟩

theorem last_any (S T : ByteArray) (hT : Hid (T.data.toList = [43, 45])) (hs : S.size ≤ 1000) (w : World) (he : Env w) :
    Calls Tryd.prog 16 #[.string S, .string T] w fun e w' => (∃ r, e = .returned (.int .i64 r) ∧ LastIs S.data.toList r) ∧ Below w.heap.size w w' := by
  by_cases h1 : S.size = 1
  · exact last_one S T hT h1 w
  by_cases h8 : 8 < S.size
  · exact last_long S T hT h8 hs w
  · exact last_short S T hT h1 (by omega) w (hid fun w' hb => (he.below hb).utf)

/-- What Atoi answers. -/
inductive NumIs (l : List UInt8) : Value → Prop
  | good (n : Int) : atoiAll l = .ok n → NumIs l (.tuple #[.int .i64 n, .nilIface])
  | bad (m : Int) (tp : TypeId) (p : Value) : (∀ n, atoiAll l ≠ .ok n) → NumIs l (.tuple #[.int .i64 m, .iface tp p])

theorem atoi_any (U : ByteArray) (hs : U.size ≤ 1000) (w : World) (he : Env w) :
    Calls Tryd.prog 17 #[.string U] w fun e w' => (∃ v, e = .returned v ∧ NumIs U.data.toList v) ∧ Below w.heap.size w w' := by
  cases h : atoiAll U.data.toList with
  | ok n =>
    refine (Tryd.strconv_Atoi_ok U (by omega) n h w).mono ?_
    rintro e w' ⟨rfl, hw⟩
    refine ⟨⟨_, rfl, .good n h⟩, ?_⟩
    rcases hw with rfl | ⟨t, rfl⟩
    · exact Below.refl _ _
    · exact Lib.bytesWorld_below _ _ _
  | range =>
    obtain ⟨tp, p, hv⟩ := he.ran
    refine (Tryd.strconv_Atoi_range_var U (by omega) h tp p w hv).mono ?_
    rintro e w' ⟨N, rfl, _, _, hb⟩
    exact ⟨⟨_, rfl, .bad _ _ _ (fun n => by rw [h]; exact fun e => by cases e)⟩, hb⟩
  | _ =>
    obtain ⟨tp, p, hv⟩ := he.syn
    refine (Tryd.strconv_Atoi_syntax_var U (by omega) h tp p w hv).mono ?_
    rintro e w' ⟨N, rfl, _, _, hb⟩
    exact ⟨⟨_, rfl, .bad _ _ _ (fun n => by rw [h]; exact fun e => by cases e)⟩, hb⟩

/-- What Parse answers. -/
inductive ParseIs (l : List UInt8) : Value → Prop
  | good (m n : Int) : into m = m → into n = n → l = textOf m n → ParseIs l (.tuple #[val m n, .int .i64 0])
  | bad : (∀ m n, into m = m → into n = n → l ≠ textOf m n) → ParseIs l (.tuple #[val 0 0, .int .i64 4])

theorem NumIs.ways {l : List UInt8} {n : Int} {e : Value} (h : NumIs l (.tuple #[.int .i64 n, e])) : (e = .nilIface ∧ atoiAll l = .ok n) ∨ ∃ tp p, e = .iface tp p ∧ ∀ n, atoiAll l ≠ .ok n := by
  cases h with
  | good _ h => exact .inl ⟨rfl, h⟩
  | bad _ tp p h => exact .inr ⟨tp, p, rfl, h⟩

theorem ext_take {S : ByteArray} {k : Nat} : (S.extract 0 k).data.toList = S.data.toList.take k := by
  rw [ByteArray.data_extract, Array.toList_extract]; simp

theorem ext_mid {S : ByteArray} {k m : Nat} (hm : S.size = m + 1) : (S.extract k m).data.toList = (S.data.toList.take (S.data.toList.length - 1)).drop k := by
  have h : S.data.toList.length = m + 1 := by rw [← hm]; simp
  rw [ByteArray.data_extract, Array.toList_extract, h, Nat.add_sub_cancel, List.drop_take]

/-- What is read of a text that is a right value's. -/
theorem read_right {S : ByteArray} {k m : Nat} (hm : S.size = m + 1) (hk : LastAt S.data.toList k) {x y : Int} (hx : into x = x) (hy : into y = y) (h : S.data.toList = textOf x y) :
    atoiAll (S.extract 0 k).data.toList = .ok x ∧ atoiAll (S.extract k m).data.toList = .ok y := by
  rw [ext_take, ext_mid hm]
  exact text_read (hx ▸ into_small x) (hy ▸ into_small y) h hk

theorem box_new (w : World) (t : TypeId) : ∃ W : World, w.alloc (.cells #[.int .i64 0, .int .i64 0] t) = W ∧
    (W.cell? ⟨w.heap.size, 0, none⟩ = some (.int .i64 0) ∧ W.cell? ⟨w.heap.size, 1, none⟩ = some (.int .i64 0)) ∧ (W.frozen? ⟨w.heap.size, 0, none⟩ = false ∧ W.frozen? ⟨w.heap.size, 1, none⟩ = false) ∧ w.heap.size < W.heap.size ∧ Hid (Below w.heap.size w W) := by
  refine ⟨_, rfl, ⟨?_, ?_⟩, ⟨?_, ?_⟩, ?_, hid ((Below.refl _ w).alloc (Nat.le_refl _) _)⟩
  all_goals simp

theorem box_of (w : World) (t : TypeId) (m n : Value) : ∃ W : World, w.alloc (.cells #[m, n] t) = W ∧
    (W.cell? ⟨w.heap.size, 0, none⟩ = some m ∧ W.cell? ⟨w.heap.size, 1, none⟩ = some n) ∧ w.heap.size < W.heap.size ∧ Hid (Below w.heap.size w W) := by
  refine ⟨_, rfl, ⟨?_, ?_⟩, ?_, hid ((Below.refl _ w).alloc (Nat.le_refl _) _)⟩
  all_goals simp

theorem box_set (w : World) (t : TypeId) (m n : Value) : ∃ W : World, ((w.alloc (.cells #[.int .i64 0, .int .i64 0] t)).setCell ⟨w.heap.size, 0, none⟩ m).setCell ⟨w.heap.size, 1, none⟩ n = W ∧
    (W.cell? ⟨w.heap.size, 0, none⟩ = some m ∧ W.cell? ⟨w.heap.size, 1, none⟩ = some n) ∧ w.heap.size < W.heap.size ∧ Hid (Below w.heap.size w W) := by
  refine ⟨_, rfl, ⟨?_, ?_⟩, ?_, hid ((((Below.refl _ w).alloc (Nat.le_refl _) _).setCell (Nat.le_refl _) _).setCell (Nat.le_refl _) _)⟩
  all_goals go_simp

set_option maxRecDepth 100000 in
set_option maxHeartbeats 2000000 in
theorem parse_any (S : ByteArray) (hs : S.size ≤ 1000) (w : World) (he : Env w) :
    Calls Tryd.prog 8 #[.string S] w fun e w' => (∃ v, e = .returned v ∧ ParseIs S.data.toList v) ∧ Below w.heap.size w w' := by
  have HE := hid he; clear he
  have HLL : Hid (S.data.toList.length = S.size) := hid (by simp)
  go_enter Tryd.func8, Tryd.ntmps8
  go_wp2_with fail
  obtain ⟨W0, hW, ⟨k0, k1⟩, ⟨f0, f1⟩, l0, HW⟩ := box_new w 23
  rw [hW]; clear hW
  have hL := last_any S ⟨#[43, 45]⟩ (hid rfl) hs W0 (HE.out.below HW.out)
  generalize hbb : w.heap.size = b at k0 k1 f0 f1 l0 ⊢
  have HBB := hid hbb; clear hbb
  refine hL.mono ?_; clear hL
  rintro e w1 ⟨⟨r, rfl, hr⟩, hb⟩
  obtain ⟨hc, hf⟩ := bcell hb
  have k0 := (hc _ _ l0).trans k0
  have k1 := (hc _ _ l0).trans k1
  have f0 := (hf _ _ l0).trans f0
  have f1 := (hf _ _ l0).trans f1
  have l0 := Nat.lt_of_lt_of_le l0 hb.size
  have HW1 := hid (HW.out.trans (hb.mono HW.out.size))
  clear hc hf hb HW
  rcases hr with ⟨hno, rfl⟩ | ⟨k, hk, rfl⟩
  · have HN := hid hno; clear hno
    go_wp2_with fail
    refine bodyPost_ret (v := .tuple #[val 0 0, .int .i64 4]) (by simp [results, Tryd.results8, go_sem, k0, k1]) rfl ?_
    refine ⟨⟨_, rfl, .bad fun m n _ _ e => ?_⟩, ?_⟩
    · have h1 := last_text m n
      rw [← e] at h1
      exact HN.out _ h1.1 h1.2.1
    · exact ((HW1.out).setCell (by rw [HBB.out]; exact Nat.le_refl _) _).setCell (by rw [HBB.out]; exact Nat.le_refl _) _
  · have HK := hid hk; clear hk
    have hkl : k < S.size := by have := HK.out.1; rw [HLL.out] at this; exact this
    have hkd : decide ((k : Int) < 0) = false := decide_eq_false (by omega)
    obtain ⟨m, hm⟩ : ∃ m, S.size = m + 1 := ⟨S.size - 1, by omega⟩
    have hkm : k ≤ m := by omega
    have HE1 := hid (HE.out.below HW1.out)
    go_wp2_with fail
    refine (atoi_any (S.extract 0 k) (by rw [ByteArray.size_extract]; omega) _ HE1.out).mono ?_
    rintro e w2 ⟨⟨v1, rfl, hv1⟩, hb⟩
    obtain ⟨hc, hf⟩ := bcell hb
    have k0 := (hc _ _ l0).trans k0
    have k1 := (hc _ _ l0).trans k1
    have f0 := (hf _ _ l0).trans f0
    have f1 := (hf _ _ l0).trans f1
    have l0 := Nat.lt_of_lt_of_le l0 hb.size
    have HW2 := hid (HW1.out.trans (hb.mono HW1.out.size))
    have HE2 := hid (HE1.out.below hb)
    clear hc hf hb HW1 HE1
    obtain ⟨re, e1, rfl⟩ : ∃ re e1, v1 = .tuple #[.int .i64 re, e1] := by cases hv1 <;> exact ⟨_, _, rfl⟩
    have HV1 := hid hv1; clear hv1
    go_wp2_with fail
    refine (atoi_any (S.extract k m) (by rw [ByteArray.size_extract]; omega) _ HE2.out).mono ?_
    rintro e w3 ⟨⟨v2, rfl, hv2⟩, hb⟩
    obtain ⟨hc, hf⟩ := bcell hb
    have k0 := (hc _ _ l0).trans k0
    have k1 := (hc _ _ l0).trans k1
    have f0 := (hf _ _ l0).trans f0
    have f1 := (hf _ _ l0).trans f1
    have l0 := Nat.lt_of_lt_of_le l0 hb.size
    have HW3 := hid (HW2.out.trans (hb.mono HW2.out.size))
    have HE3 := hid (HE2.out.below hb)
    clear hc hf hb HW2 HE2
    obtain ⟨im, e2, rfl⟩ : ∃ re e1, v2 = .tuple #[.int .i64 re, e1] := by cases hv2 <;> exact ⟨_, _, rfl⟩
    have HV2 := hid hv2; clear hv2
    go_wp2_with fail
    obtain ⟨W, hW, ⟨j0, j1⟩, l1, HB4⟩ := box_of w3 23 (.int .i64 re) (.int .i64 im)
    rw [hW]; clear hW
    obtain ⟨hc, hf⟩ := bcell HB4.out
    have k0 := (hc _ _ l0).trans k0
    have k1 := (hc _ _ l0).trans k1
    have f0 := (hf _ _ l0).trans f0
    have f1 := (hf _ _ l0).trans f1
    have l0 := Nat.lt_of_lt_of_le l0 HB4.out.size
    have HW4 := hid (HW3.out.trans (HB4.out.mono HW3.out.size))
    have HE4 := hid (HE3.out.below HB4.out)
    generalize w3.heap.size = g at j0 j1 l1 ⊢
    clear hc hf HB4 HW3 HE3
    rcases HV1.out.ways with ⟨rfl, ho1⟩ | ⟨tp, p, rfl, ho1⟩
    · rcases HV2.out.ways with ⟨rfl, ho2⟩ | ⟨tp, p, rfl, ho2⟩
      · have HO := hid (And.intro ho1 ho2); clear ho1 ho2 HV1 HV2
        obtain ⟨S2, hS2⟩ : ∃ S : ByteArray, (⟨(textOf (into re) (into im)).toArray⟩ : ByteArray) = S := ⟨_, rfl⟩
        have HS2 := hid hS2; clear hS2
        go_simp
        go_wp2_with fail
        refine (text_any re im (atoiAll_bounds HO.out.1) (atoiAll_bounds HO.out.2) S2 HS2 _ HE4.out.tab).mono ?_
        rintro e w5 ⟨rfl, hb⟩
        obtain ⟨hc, hf⟩ := bcell hb
        have k0 := (hc _ _ l0).trans k0
        have k1 := (hc _ _ l0).trans k1
        have f0 := (hf _ _ l0).trans f0
        have f1 := (hf _ _ l0).trans f1
        have j0 := (hc _ _ l1).trans j0
        have j1 := (hc _ _ l1).trans j1
        have HW5 := hid (HW4.out.trans (hb.mono HW4.out.size))
        clear hc hf hb HW4 HE4 l0 l1
        by_cases heq : S2 = S
        · have hne : (S2.toList == S.toList) = true := str_beq heq
          have HQ := hid heq; clear heq
          go_wp2_with fail
          refine bodyPost_ret (v := .tuple #[val re im, .int .i64 0]) (by simp [results, Tryd.results8, go_sem, k0, k1]) rfl ?_
          refine ⟨⟨_, rfl, ?_⟩, ((HW5.out).setCell (by rw [HBB.out]; exact Nat.le_refl _) _).setCell (by rw [HBB.out]; exact Nat.le_refl _) _⟩
          have h1 : S.data.toList = textOf (into re) (into im) := by rw [← HQ.out, ← HS2.out]
          obtain ⟨h2, h3⟩ := read_right hm HK.out (into_into re) (into_into im) h1
          have h4 := HO.out.1.symm.trans h2
          have h5 := HO.out.2.symm.trans h3
          injection h4 with h4
          injection h5 with h5
          rw [← h4, ← h5] at h1
          exact .good re im h4.symm h5.symm h1
        · have hne : (S2.toList == S.toList) = false := str_bne heq
          have HQ := hid heq; clear heq
          go_wp2_with fail
          refine bodyPost_ret (v := .tuple #[val 0 0, .int .i64 4]) (by simp [results, Tryd.results8, go_sem, k0, k1]) rfl ?_
          refine ⟨⟨_, rfl, .bad fun x y hx hy h => ?_⟩, ((HW5.out).setCell (by rw [HBB.out]; exact Nat.le_refl _) _).setCell (by rw [HBB.out]; exact Nat.le_refl _) _⟩
          obtain ⟨h2, h3⟩ := read_right hm HK.out hx hy h
          have h4 := HO.out.1.symm.trans h2
          have h5 := HO.out.2.symm.trans h3
          injection h4 with h4
          injection h5 with h5
          refine HQ.out ?_
          rw [← HS2.out, h4, h5, hx, hy, ← h]
      · have HO := hid ho2; clear ho1 ho2 HV1 HV2
        go_simp
        go_wp2_with fail
        refine bodyPost_ret (v := .tuple #[val 0 0, .int .i64 4]) (by simp [results, Tryd.results8, go_sem, k0, k1]) rfl ?_
        refine ⟨⟨_, rfl, .bad fun x y hx hy h => ?_⟩, ((HW4.out).setCell (by rw [HBB.out]; exact Nat.le_refl _) _).setCell (by rw [HBB.out]; exact Nat.le_refl _) _⟩
        exact HO.out _ (read_right hm HK.out hx hy h).2
    · have HO := hid ho1; clear ho1 HV1 HV2
      go_simp
      go_wp2_with fail
      refine bodyPost_ret (v := .tuple #[val 0 0, .int .i64 4]) (by simp [results, Tryd.results8, go_sem, k0, k1]) rfl ?_
      refine ⟨⟨_, rfl, .bad fun x y hx hy h => ?_⟩, ((HW4.out).setCell (by rw [HBB.out]; exact Nat.le_refl _) _).setCell (by rw [HBB.out]; exact Nat.le_refl _) _⟩
      exact HO.out _ (read_right hm HK.out hx hy h).1

end Go.Proofs.YtgkhmhbmdmjacaaDoor
