/- Layer 3, gauss: strings.IndexRune("+-", r), strings.LastIndexAny(s, "+-"). -/
import Derived.Test.YtgkhmhbmdmjacaaDoorGauL
import Derived.LoopN
import Derived.Test.YtgkhmhbmdmjacaaDoorGauI
import Derived.Test.YtgkhmhbmdmjacaaDoorRegQ
import Derived.WalkMore
import Derived.Laws.Runes
import Derived.Laws.RangeString
import Derived.Laws.RangeAny
namespace Go.Proofs.YtgkhmhbmdmjacaaDoor
open Go.RowKit Go.Lib
set_option linter.unusedVariables false

set_option maxRecDepth 100000 in
set_option maxHeartbeats 1000000 in
theorem idx_bad (r : Int) (h0 : 128 ≤ r) (h1 : r ≤ 1114111) (hne : ¬ r = 65533) (hv : Lib.validRune r = false) (w : World) :
    Calls Tryd.prog 23 #[.string ⟨#[43, 45]⟩, .int .i32 r] w fun e w' => e = .returned (.int .i64 (-1)) ∧ Below w.heap.size w w' := by
  have d1 : decide (0 ≤ r) = true := by simp; omega
  have d2 : decide (r < 128) = false := by simp; omega
  have d3 : (r == 65533) = false := by simp; omega
  go_enter Tryd.func23, Tryd.ntmps23
  go_wp2_with fail
  refine (Tryd.utf8_ValidRune r _).mono ?_
  rintro e w1 ⟨he, rfl⟩
  rw [hv] at he
  subst he
  go_wp2_with fail
  go_ret
  exact ⟨rfl, Below.refl _ _⟩

/-- The slots of IndexRune's seventh region. -/
def slotsX (T S : ByteArray) (c : UInt8) : List Kd :=
  [.is (.string T), .any, .any, .any, .any, .any, .any, .is (.string S), .is (.int .i64 1), .is (.int .i64 1), .any, .is (.int .i64 (-1)), .any, .any, .any, .any, .any, .any, .any, .any, .any, .any, .any, .any, .any, .any, .any, .any, .any, .any, .any, .any, .any, .any, .is (.string T), .is (.int .i64 1), .is (.int .i64 2), .is (.string ByteArray.empty), .is (.string S), .is (.int .i64 1), .is (.int .u8 c.toNat), .is (.int .i64 (-1))]

theorem indexB_nil (U : ByteArray) (hU : U.size = 0) (c : Int) (w : World) :
    Calls Tryd.prog 31 #[.string U, .int .u8 c] w fun e w' => e = .returned (.int .i64 (-1)) ∧ w' = w := by
  refine (Tryd.strings_IndexByte U c w).mono ?_
  rintro e w' ⟨rfl, rfl⟩
  have h : U.data.toList = [] := List.eq_nil_of_length_eq_zero (by simpa using hU)
  rw [h]
  exact ⟨rfl, rfl⟩

set_option maxRecDepth 100000 in
set_option maxHeartbeats 1000000 in
theorem idx_val (r : Int) (h0 : 128 ≤ r) (h1 : r ≤ 1114111) (hne : ¬ r = 65533) (hv : Lib.validRune r = true) (w : World) :
    Calls Tryd.prog 23 #[.string ⟨#[43, 45]⟩, .int .i32 r] w fun e w' => e = .returned (.int .i64 (-1)) ∧ Below w.heap.size w w' := by
  have d1 : decide (0 ≤ r) = true := by simp; omega
  have d2 : decide (r < 128) = false := by simp; omega
  have d3 : (r == 65533) = false := by simp; omega
  obtain ⟨n0, n1, n2⟩ := encode_facts r (by have := validRune_eq r; rw [this]; exact hv) h0
  obtain ⟨S, hS⟩ : ∃ S, Utf8.encode r = S := ⟨_, rfl⟩
  rw [hS] at n0 n1
  have n2 : ∀ h : S.size - 1 < S.size, 128 ≤ (S[S.size - 1]'h).toNat := by subst hS; exact n2
  by_cases hz : S.size = 2
  · have hx : 1 < S.size := by omega
    obtain ⟨c, hc⟩ : ∃ c, S[1]'hx = c := ⟨_, rfl⟩
    have hcc : 128 ≤ c.toNat := by
      have := n2 (by omega)
      rw [← hc]
      simpa [hz] using this
    clear n2 n0 n1
    obtain ⟨T, hT, tz, t1⟩ : ∃ T : ByteArray, (⟨#[43, 45]⟩ : ByteArray) = T ∧ T.size = 2 ∧ ∀ h : 1 < T.size, (T[1]'h).toNat = 45 := ⟨_, rfl, rfl, fun _ => rfl⟩
    rw [hT]
    clear hT
    have tx : 1 < T.size := by omega
    obtain ⟨d, hd⟩ : ∃ d, T[1]'tx = d := ⟨_, rfl⟩
    have d4 : ((d.toNat : Int) != (c.toNat : Int)) = true := by
      have := t1 tx
      rw [hd] at this
      simp only [bne_iff_ne]
      omega
    clear hcc t1
    go_enter Tryd.func23, Tryd.ntmps23
    go_wp2_with fail
    refine (Tryd.utf8_ValidRune r _).mono ?_
    rintro e w1 ⟨he, rfl⟩
    rw [hv] at he
    subst he
    go_wp2_with fail
    go_step3
    go_wp2_with fail
    refine wp_loop_rounds 2 ?_
    unfold Code.rounds
    go_wp2_with fail
    go_step3
    go_wp2_with fail
    go_quiet (fail)
    go_wp2_with fail
    refine region_all (T := fun k => ((slotsX T S c).getD k .any).ok) (G := fun w' => Hid (Below w1.heap.size w1 w')) (bs := [0, 7, 8, 9]) 187 (by kernel_rfl) rfl (by kernel_rfl) (fun k u w w' => Kd.stable _ u w w') (hid ((Below.refl _ _).trans (below_grow w1 _ #[]).drew)) ?_ ?_ ?_
    · refine List.forall_mem_cons.2 ⟨rfl, List.forall_mem_cons.2 ⟨rfl, List.forall_mem_cons.2 ⟨rfl, List.forall_mem_cons.2 ⟨rfl, ?_⟩⟩⟩⟩
      intro k hk; cases hk
    · repeat' (first | exact StepAll.nil | refine StepAll.append ?_ ?_ | refine StepAll.cons ?_ ?_)
      all_goals refine .inl ⟨guard_none rfl, ?_⟩
      all_goals intro K a w' hK hG H
      all_goals first
        | (obtain ⟨h1, h2, -⟩ := H; change a.tmps.getD _ undef = _ at h1; have g1 := h1; rw [Array.getD_eq_getD_getElem?] at g1; change a.tmps.getD _ undef = _ at h2; have g2 := h2; rw [Array.getD_eq_getD_getElem?] at g2)
        | (obtain ⟨h1, -⟩ := H; change a.tmps.getD _ undef = _ at h1; have g1 := h1; rw [Array.getD_eq_getD_getElem?] at g1)
        | skip
      all_goals go_simp
      all_goals first
        | (go_at_call 31; refine (indexB_nil _ (by simp) _ _).mono ?_; (rintro e w'' ⟨rfl, rfl⟩; exact hK _ _ (fun d hd => by cases hd; exact rfl) hG (Below.refl _ _)))
        | exact hK _ _ (fun d hd => by cases hd; exact rfl) hG (Below.refl _ _)
    · intro a w' hd hn hG hk hval
      have h11 : a.tmps.getD 11 undef = .int .i64 (-1) := hval 11 (by kernel_rfl)
      obtain ⟨u, hu⟩ : ∃ u : Nat → Value, u = fun k => a.tmps.getD k undef := ⟨_, rfl⟩
      have ha : a = ⟨#[u 0, u 1, u 2, u 3, u 4, u 5, u 6, u 7, u 8, u 9, u 10, u 11, u 12, u 13, u 14, u 15, u 16, u 17, u 18, u 19, u 20, u 21, u 22, u 23, u 24, u 25, u 26, u 27, u 28, u 29, u 30, u 31, u 32, u 33, u 34, u 35, u 36, u 37, u 38, u 39, u 40, u 41, u 42, u 43, u 44, u 45, u 46, u 47, u 48, u 49, u 50, u 51, u 52, u 53, u 54, u 55, u 56, u 57, u 58, u 59, u 60, u 61, u 62, u 63, u 64, u 65, u 66, u 67, u 68, u 69, u 70, u 71, u 72, u 73, u 74, u 75, u 76, u 77, u 78, u 79, u 80, u 81, u 82, u 83, u 84, u 85, u 86, u 87, u 88, u 89, u 90, u 91, u 92, u 93, u 94, u 95, u 96, u 97, u 98, u 99, u 100, u 101, u 102, u 103, u 104, u 105, u 106, u 107, u 108, u 109, u 110, u 111, u 112, u 113, u 114, u 115, u 116, u 117, u 118, u 119, u 120, u 121, u 122, u 123, u 124, u 125, u 126, u 127, u 128, u 129, u 130, u 131, u 132, u 133, u 134, u 135, u 136, u 137, u 138, u 139, u 140, u 141, u 142, u 143, u 144, u 145, u 146, u 147, u 148, u 149, u 150, u 151, u 152, u 153, u 154, u 155, u 156, u 157, u 158, u 159, u 160, u 161, u 162, u 163, u 164, u 165, u 166, u 167, u 168, u 169, u 170, u 171, u 172, u 173, u 174, u 175, u 176, u 177, u 178, u 179, u 180, u 181, u 182, u 183, u 184, u 185, u 186], a.defers⟩ := by
        rw [hu]; exact frame_eq hn
      have e11 : u 11 = _ := (congrFun hu 11).trans h11
      rw [e11, hd] at ha
      clear hd hn h11 hu hval hk
      subst ha
      clear e11
      go_wp2_with fail
      rw [Exit.noGoto_ret]
      go_wp2_with fail
      rw [Exit.noGoto_ret]
      go_wp2_with fail
      go_ret
      exact ⟨rfl, hG.out⟩
  · have d5 : decide ((S.size : Int) - 1 < 2) = false := by simp; omega
    have d6 : IntKind.i64.wrap ((S.size : Int) - 1) = (S.size : Int) - 1 := by rw [IntKind.wrap_i64]; omega
    clear n2
    go_enter Tryd.func23, Tryd.ntmps23
    go_wp2_with fail
    refine (Tryd.utf8_ValidRune r _).mono ?_
    rintro e w1 ⟨he, rfl⟩
    rw [hv] at he
    subst he
    go_wp2_with fail
    go_step3
    go_wp2_with fail
    refine wp_loop_rounds 2 ?_
    unfold Code.rounds
    go_wp2_with fail
    go_ret
    exact ⟨rfl, Below.refl _ _⟩

set_option maxRecDepth 100000 in
set_option maxHeartbeats 1000000 in
theorem idx_err (w : World) :
    Calls Tryd.prog 23 #[.string ⟨#[43, 45]⟩, .int .i32 65533] w fun e w' => e = .returned (.int .i64 (-1)) ∧ Below w.heap.size w w' := by
  obtain ⟨S, hS⟩ : ∃ S : ByteArray, (⟨#[43, 45]⟩ : ByteArray) = S := ⟨_, rfl⟩
  have hn0 : ∀ (w : World) ty, (Instr.next (.pointer (some ⟨w.heap.size, 0, none⟩)) true ty).run Tryd.prog (w.iter S 0) = .ok (.tuple #[.bool true, .int .i64 0, .int .i32 43]) (w.iter S 1) := fun w ty => by subst hS; exact run_next_ascii w _ 0 ty (by decide) (by decide)
  have hn1 : ∀ (w : World) ty, (Instr.next (.pointer (some ⟨w.heap.size, 0, none⟩)) true ty).run Tryd.prog (w.iter S 1) = .ok (.tuple #[.bool true, .int .i64 1, .int .i32 45]) (w.iter S 2) := fun w ty => by subst hS; exact run_next_ascii w _ 1 ty (by decide) (by decide)
  have hn2 : ∀ (w : World) ty, (Instr.next (.pointer (some ⟨w.heap.size, 0, none⟩)) true ty).run Tryd.prog (w.iter S 2) = .ok (.tuple #[.bool false]) (w.iter S 2) := fun w ty => by subst hS; exact run_next_end w _ 2 ty (by decide)
  rw [hS]
  clear hS
  go_enter Tryd.func23, Tryd.ntmps23
  go_wp2_with fail
  refine wp_loop_rounds 3 ?_
  unfold Code.rounds
  go_wp2_with fail
  unfold Code.rounds
  go_wp2_with fail
  unfold Code.rounds
  go_wp2_with fail
  go_ret
  exact ⟨rfl, (Below.refl _ _).alloc (Nat.le_refl _) _⟩

end Go.Proofs.YtgkhmhbmdmjacaaDoor
