/- Layer 2, sum: Open: its contract. -/
import Derived.Test.YtibnepjlddfnhaaSumB
import Derived.Deep.RegionHeld3
import Derived.Deep.DrawnRows
namespace Go.Proofs.Ytibnepjlddfnhaa
open Go.RowKit
set_option linter.unusedVariables false

/-- What Open answers: the text, what stands behind, the error. -/
inductive Opn (S : ByteArray) : ByteArray → ByteArray → Int → Prop
  | short (h : S.size < 8) : Opn S ⟨#[]⟩ S 3
  | long (h : 8 ≤ S.size) (h1 : 1048576 < uns4 S.data.toList) : Opn S ⟨#[]⟩ S 6
  | far (h : 8 ≤ S.size) (h1 : uns4 S.data.toList ≤ 1048576) (h2 : S.size < 8 + uns4 S.data.toList) : Opn S ⟨#[]⟩ S 3
  | bad (n : Nat) (hn : uns4 S.data.toList = n) (h1 : n ≤ 1048576) (h2 : 8 + n ≤ S.size) (h3 : crc (S.data.toList.take 4 ++ (S.data.toList.drop 8).take n) ≠ uns4 (S.data.toList.drop 4)) : Opn S ⟨#[]⟩ S 5
  | ok (n : Nat) (hn : uns4 S.data.toList = n) (h1 : n ≤ 1048576) (h2 : 8 + n ≤ S.size) (h3 : crc (S.data.toList.take 4 ++ (S.data.toList.drop 8).take n) = uns4 (S.data.toList.drop 4)) : Opn S (S.extract 8 (8 + n)) (S.extract (8 + n) S.size) 0

theorem Opn.total (S : ByteArray) : ∃ A B E, Opn S A B E := by
  by_cases h : S.size < 8
  · exact ⟨_, _, _, .short h⟩
  by_cases h1 : 1048576 < uns4 S.data.toList
  · exact ⟨_, _, _, .long (by omega) h1⟩
  by_cases h2 : S.size < 8 + uns4 S.data.toList
  · exact ⟨_, _, _, .far (by omega) (by omega) h2⟩
  by_cases h3 : crc (S.data.toList.take 4 ++ (S.data.toList.drop 8).take (uns4 S.data.toList)) = uns4 (S.data.toList.drop 4)
  · exact ⟨_, _, _, .ok _ rfl (by omega) (by omega) h3⟩
  · exact ⟨_, _, _, .bad _ rfl (by omega) (by omega) h3⟩

theorem extract_list (S : ByteArray) (a b : Nat) : (S.extract a b).data.toList = (S.data.toList.take b).drop a := by
  rw [← mk_data S, extract_mk, mk_data]

theorem bl_alloc {w w' : World} (h : Hid (Below w.heap.size w w')) (o : Obj) : Hid (Below w.heap.size w (w'.alloc o)) := hid (h.out.alloc h.out.size o)
theorem bl_drew {w w' : World} (h : Hid (Below w.heap.size w w')) : Hid (Below w.heap.size w w'.drew) := hid (h.out.drew)
theorem bl_drewN {w w' : World} (h : Hid (Below w.heap.size w w')) (k : Nat) : Hid (Below w.heap.size w (w'.drewN k)) := hid (below_drewN h.out k)
theorem bl_below {w w' w'' : World} (h : Hid (Below w.heap.size w w')) (hb : Below w'.heap.size w' w'') : Hid (Below w.heap.size w w'') := hid (h.out.trans (hb.mono h.out.size))

theorem heap_drew_new (w : World) (o : Obj) : (w.alloc o).drew.heap[w.heap.size]? = some o := heap_alloc_new w o

set_option maxHeartbeats 1000000 in
theorem open_bad1 (S U T V : ByteArray) (n N M : Nat) (hn : uns4 S.data.toList = n) (h1 : n ≤ 1048576) (h2 : 8 + n ≤ S.size) (hl : S.size ≤ 1000000000)
    (hU : S.extract 0 4 = U) (hT : S.extract 8 (8 + n) = T) (hV : S.extract 4 S.size = V) (hUs : U.size ≤ 1000000000000) (hTs : T.size ≤ 1000000000000) (hVs : 4 ≤ V.size) (hVs2 : V.size ≤ 1000000000000)
    (hN : crc (U.data.toList ++ T.data.toList) = N) (hM : uns4 V.data.toList = M) (hne : N ≠ M) (w : World) :
    Calls Try.prog 11 #[.string S] w fun e w' => e = .returned (.tuple #[.string ⟨#[]⟩, .string S, .int .i64 5]) ∧ Below w.heap.size w w' := by
  have HN := hid hN; have HM := hid hM; have HNN := hid hn; have HNE := hid hne
  have HW : Hid (∀ w, Calls Try.prog 16 #[.string S] w fun e w' => e = .returned (.int .i64 n) ∧ ∃ k, w' = w.drewN k) := hid (number_any S (by omega) (by omega) n hn)
  have i1 : (4 : Int) ≤ (S.size : Int) := by omega
  have i2 : (8 : Int) ≤ 8 + (n : Int) := by omega
  have i3 : (8 : Int) + (n : Int) ≤ (S.size : Int) := by omega
  have i4 : (0 : Int) ≤ 8 + (n : Int) := by omega
  have i5 : (8 + (n : Int)).toNat = 8 + n := by omega
  have i6 : ((N : Int) != (M : Int)) = true := by simp; omega
  clear hN hM hn hne
  go_enter Try.func11, Try.ntmps11
  go_wp2_with fail
  refine (HW.out _).mono ?_
  rintro e w1 ⟨rfl, k, rfl⟩
  have hb : Below w.heap.size w (w.drewN k) := below_drewN (Below.refl _ w) k
  generalize w.drewN k = w1 at hb ⊢
  have HB := hid hb; clear hb
  go_wp2_with fail
  go_region_held3 (fun w' => Hid (Below w.heap.size w w')) (first | assumption | exact bl_alloc (by assumption) _ | exact bl_drew (by assumption) | exact bl_drewN (by assumption) _ | exact bl_below (by assumption) (by assumption))
    (first
      | (go_at_call 8; refine (of_pair _ U T N (by rw [HN.out]) _ 9 (heap_drew_new _ _) hUs hTs).mono ?_; rintro e w' ⟨rfl, hb⟩)
      | (go_at_call 16; refine (number_any V hVs hVs2 M HM.out _).mono ?_; rintro e w' ⟨rfl, k, rfl⟩))
  go_wp2
  go_ret3
  refine ⟨rfl, ?_⟩
  exact Hid.out (by assumption)

set_option maxHeartbeats 1000000 in
theorem open_ok1 (S U T V R : ByteArray) (n N : Nat) (hn : uns4 S.data.toList = n) (h1 : n ≤ 1048576) (h2 : 8 + n ≤ S.size) (hl : S.size ≤ 1000000000)
    (hU : S.extract 0 4 = U) (hT : S.extract 8 (8 + n) = T) (hV : S.extract 4 S.size = V) (hR : S.extract (8 + n) S.size = R) (hUs : U.size ≤ 1000000000000) (hTs : T.size ≤ 1000000000000) (hVs : 4 ≤ V.size) (hVs2 : V.size ≤ 1000000000000)
    (hN : crc (U.data.toList ++ T.data.toList) = N) (hM : uns4 V.data.toList = N) (w : World) :
    Calls Try.prog 11 #[.string S] w fun e w' => e = .returned (.tuple #[.string T, .string R, .int .i64 0]) ∧ Below w.heap.size w w' := by
  have HN := hid hN; have HM := hid hM; have HNN := hid hn
  have HW : Hid (∀ w, Calls Try.prog 16 #[.string S] w fun e w' => e = .returned (.int .i64 n) ∧ ∃ k, w' = w.drewN k) := hid (number_any S (by omega) (by omega) n hn)
  have i1 : (4 : Int) ≤ (S.size : Int) := by omega
  have i2 : (8 : Int) ≤ 8 + (n : Int) := by omega
  have i3 : (8 : Int) + (n : Int) ≤ (S.size : Int) := by omega
  have i4 : (0 : Int) ≤ 8 + (n : Int) := by omega
  have i5 : (8 + (n : Int)).toNat = 8 + n := by omega
  clear hN hM hn
  go_enter Try.func11, Try.ntmps11
  go_wp2_with fail
  refine (HW.out _).mono ?_
  rintro e w1 ⟨rfl, k, rfl⟩
  have hb : Below w.heap.size w (w.drewN k) := below_drewN (Below.refl _ w) k
  generalize w.drewN k = w1 at hb ⊢
  have HB := hid hb; clear hb
  go_wp2_with fail
  go_region_held3 (fun w' => Hid (Below w.heap.size w w')) (first | assumption | exact bl_alloc (by assumption) _ | exact bl_drew (by assumption) | exact bl_drewN (by assumption) _ | exact bl_below (by assumption) (by assumption))
    (first
      | (go_at_call 8; refine (of_pair _ U T N (by rw [HN.out]) _ 9 (heap_drew_new _ _) hUs hTs).mono ?_; rintro e w' ⟨rfl, hb⟩)
      | (go_at_call 16; refine (number_any V hVs hVs2 N HM.out _).mono ?_; rintro e w' ⟨rfl, k, rfl⟩))
  clear HB
  go_wp2_with fail
  go_region_held3 (fun w' => Hid (Below w.heap.size w w')) (first | assumption | exact bl_alloc (by assumption) _ | exact bl_drew (by assumption) | exact bl_drewN (by assumption) _ | exact bl_below (by assumption) (by assumption))
    (first
      | (go_at_call 17; refine (clone_str T _ (by omega)).mono ?_; rintro e w' ⟨rfl, hb⟩))
  go_wp2
  go_ret3
  refine ⟨rfl, ?_⟩
  exact Hid.out (by assumption)

theorem open_gen (S A B : ByteArray) (E : Int) (h : Opn S A B E) (hl : S.size ≤ 1000000000) (w : World) :
    Calls Try.prog 11 #[.string S] w fun e w' => e = .returned (.tuple #[.string A, .string B, .int .i64 E]) ∧ Below w.heap.size w w' := by
  cases h with
  | short h =>
    go_enter Try.func11, Try.ntmps11
    go_wp2
    go_ret3
    exact ⟨rfl, Below.refl _ _⟩
  | long h h1 =>
    obtain ⟨n, hn⟩ : ∃ n, uns4 S.data.toList = n := ⟨_, rfl⟩
    rw [hn] at h1
    have HW : Hid (∀ w, Calls Try.prog 16 #[.string S] w fun e w' => e = .returned (.int .i64 n) ∧ ∃ k, w' = w.drewN k) := hid (number_any S (by omega) (by omega) n hn)
    have hnl : n < 4294967296 := by rw [← hn]; exact uns4_lt _
    clear hn
    go_enter Try.func11, Try.ntmps11
    go_wp2_with fail
    refine (HW.out _).mono ?_
    rintro e w1 ⟨rfl, k, rfl⟩
    go_wp2
    go_ret3
    exact ⟨rfl, below_drewN (Below.refl _ w) k⟩
  | far h h1 h2 =>
    obtain ⟨n, hn⟩ : ∃ n, uns4 S.data.toList = n := ⟨_, rfl⟩
    rw [hn] at h1 h2
    have HW : Hid (∀ w, Calls Try.prog 16 #[.string S] w fun e w' => e = .returned (.int .i64 n) ∧ ∃ k, w' = w.drewN k) := hid (number_any S (by omega) (by omega) n hn)
    clear hn
    go_enter Try.func11, Try.ntmps11
    go_wp2_with fail
    refine (HW.out _).mono ?_
    rintro e w1 ⟨rfl, k, rfl⟩
    go_wp2
    go_ret3
    exact ⟨rfl, below_drewN (Below.refl _ w) k⟩
  | bad n hn h1 h2 h3 =>
    have e1 : (S.extract 0 4).data.toList = S.data.toList.take 4 := by rw [extract_list]; rfl
    have e2 : (S.extract 8 (8 + n)).data.toList = (S.data.toList.drop 8).take n := by rw [extract_list, List.drop_take]; congr 1; omega
    have e3 : (S.extract 4 S.size).data.toList = S.data.toList.drop 4 := by rw [extract_list, size_list, List.take_of_length_le (Nat.le_refl _)]
    exact open_bad1 S _ _ _ n _ _ hn h1 h2 hl rfl rfl rfl (by simp; omega) (by simp; omega) (by simp; omega) (by simp; omega) rfl rfl (by rw [e1, e2, e3]; exact h3) w
  | ok n hn h1 h2 h3 =>
    have e1 : (S.extract 0 4).data.toList = S.data.toList.take 4 := by rw [extract_list]; rfl
    have e2 : (S.extract 8 (8 + n)).data.toList = (S.data.toList.drop 8).take n := by rw [extract_list, List.drop_take]; congr 1; omega
    have e3 : (S.extract 4 S.size).data.toList = S.data.toList.drop 4 := by rw [extract_list, size_list, List.take_of_length_le (Nat.le_refl _)]
    exact open_ok1 S _ _ _ _ n _ hn h1 h2 hl rfl rfl rfl rfl (by simp; omega) (by simp; omega) (by simp; omega) (by simp; omega) rfl (by rw [e1, e2, e3]; exact h3.symm) w

end Go.Proofs.Ytibnepjlddfnhaa
