/- Layer 5, check: what is trimmed: contracts of jump, leapt. -/
import Derived.Test.YtfohdoahddommaaDoorChkF
import Derived.Test.YtfohdoahddommaaDoorIns
import Derived.Test.YtfohdoahddommaaDoorOwn
namespace Go.Proofs.YtfohdoahddommaaDoor
open Go.RowKit Go.Lib
set_option linter.unusedVariables false
set_option maxRecDepth 100000

/-- A slice value whose elements are the bools S, its row below block B. -/
def SlB (w : World) (B : Nat) (v : Value) (S : List Bool) : Prop :=
  ∃ A c, v = .slice A S.length c ∧ S.length ≤ c ∧
    (0 < S.length → ∃ b o, A = some ⟨b, o, none⟩ ∧ b < B ∧ ∀ j, j < S.length → w.cell? ⟨b, o + j, none⟩ = some (.bool (S.getD j false)))

theorem SlB.keep {w w' : World} {B : Nat} {v : Value} {S : List Bool} (h : SlB w B v S) (hk : ∀ b o, b < B → w'.cell? ⟨b, o, none⟩ = w.cell? ⟨b, o, none⟩) : SlB w' B v S := by
  obtain ⟨A, c, hv, hc, h⟩ := h
  refine ⟨A, c, hv, hc, fun hp => ?_⟩
  obtain ⟨b, o, hA, hb, hz⟩ := h hp
  exact ⟨b, o, hA, hb, fun j hj => (hk b _ hb).trans (hz j hj)⟩

theorem SlB.here {w w' : World} {v : Value} {S : List Bool} (h : SlB w w.heap.size v S) (hb : Hid (Below w.heap.size w w')) : SlB w' w'.heap.size v S := by
  obtain ⟨A, c, hv, hc, h⟩ := h.keep (fun b o h => hb.out.cell (p := ⟨b, o, none⟩) h)
  refine ⟨A, c, hv, hc, fun hp => ?_⟩
  obtain ⟨b, o, hA, hb2, hz⟩ := h hp
  exact ⟨b, o, hA, Nat.lt_of_lt_of_le hb2 hb.out.size, hz⟩

/-- A jump over n. -/
def jumpI (o : Int) (n : Nat) : Int × Int := if n = 0 then (13, 0) else (o, n)

theorem jump_any (o : Int) (n : Nat) (w : World) :
    Calls Tryd.prog 32 #[.int .i64 o, .int .i64 n] w fun e w' => e = .returned (val (jumpI o n).1 (jumpI o n).2) ∧ Below w.heap.size w w' := by
  by_cases h : n = 0
  · subst h
    go_enter Tryd.func32, Tryd.ntmps32
    go_wp2_with fail
    exact bodyPost_ret (v := val 13 0) (by simp [results, Tryd.results32, go_sem]) rfl ⟨rfl, (Below.refl _ w).alloc (Nat.le_refl _) _⟩
  · have hn : ((n : Int) == 0) = false := by simp; omega
    have HJ : Hid (jumpI o n = (o, (n : Int))) := hid (by unfold jumpI; rw [if_neg h])
    clear h
    go_enter Tryd.func32, Tryd.ntmps32
    go_wp2_with fail
    exact bodyPost_ret (v := val o n) (by simp [results, Tryd.results32, go_sem]) rfl ⟨by rw [HJ.out], (Below.refl _ w).alloc (Nat.le_refl _) _⟩

/-- How many of those that a jump at k leads over stay. -/
def leaptN (l : List (Int × Int)) (S : List Bool) (k : Nat) : Nat := ((S.drop (k + 1)).take (arAt l k).toNat).count true

theorem leapt_len {l : List (Int × Int)} {S : List Bool} {k n L : Nat} {a : Int} (HA : arAt l k = a) (HS : S.length = n) (h : L = a.toNat ∨ (L = n - (k + 1) ∧ L ≤ a.toNat)) : leaptN l S k = ((S.drop (k + 1)).take L).count true := by
  unfold leaptN
  rw [HA]
  rcases h with h | ⟨h, h2⟩
  · rw [h]
  · rw [List.take_of_length_le (by rw [List.length_drop, HS, ← h]; exact h2), List.take_of_length_le (by rw [List.length_drop, HS, ← h]; exact Nat.le_refl _)]

theorem count_succ (D : List Bool) (j : Nat) (b : Bool) (hj : j < D.length) (hb : D.getD j false = b) : (D.take (j + 1)).count true = (D.take j).count true + (if b = true then 1 else 0) := by
  rw [List.take_add_one, List.count_append, List.getElem?_eq_getElem hj]
  rw [List.getD_eq_getElem?_getD, List.getElem?_eq_getElem hj] at hb
  have hb2 : D[j] = b := hb
  rw [hb2]
  cases b <;> rfl

theorem count_lim (D : List Bool) (j : Nat) : (D.take j).count true ≤ j := by
  have h1 : (D.take j).count true ≤ (D.take j).length := List.count_le_length ..
  have h2 : (D.take j).length ≤ j := by rw [List.length_take]; omega
  omega

set_option maxRecDepth 100000 in
set_option maxHeartbeats 2000000 in
theorem leapt_any (v vs : Value) (l : List (Int × Int)) (S : List Bool) (k : Nat) (w : World) (hv : SlV w w.heap.size v l) (hs : SlB w w.heap.size vs S) (hk : k < l.length) (hl : l.length ≤ 1000) (hS : S.length = l.length) (h0 : 0 ≤ arAt l k) (h1 : arAt l k ≤ 1000000) :
    Calls Tryd.prog 33 #[v, .int .i64 k, vs] w fun e w' => e = .returned (.int .i64 (leaptN l S k)) ∧ Below w.heap.size w w' := by
  obtain ⟨A, c, rfl, hc, hA⟩ := hv
  obtain ⟨A2, c2, rfl, hc2, hA2⟩ := hs
  obtain ⟨b1, o1, rfl, hb1, hcell⟩ := hA (by omega)
  obtain ⟨b2, o2, rfl, hb2, hcell2⟩ := hA2 (by omega)
  obtain ⟨ca, cb⟩ := hcell k hk
  obtain ⟨o, a, hoa⟩ := pair_of (p := l.getD k (0, 0))
  rw [hoa] at ca cb
  have HA : Hid (arAt l k = a) := hid (by unfold arAt; rw [hoa])
  rw [HA.out] at h0 h1
  have HC2 := hid hcell2
  clear hcell hcell2 hA hA2 hoa
  obtain ⟨n, hn⟩ : ∃ n, l.length = n := ⟨_, rfl⟩
  rw [hS] at hc2 HC2 ⊢
  rw [hn] at hk hl hc hc2 HC2 ⊢
  have HS := hid (hS.trans hn)
  clear hS hn
  go_enter Tryd.func33, Tryd.ntmps33
  go_wp2_with fail
  refine (target_any k o a w (by omega) h0 h1).mono ?_
  rintro e w1 ⟨rfl, hb⟩
  have HB := hid hb; clear hb
  have HC3 : Hid (∀ j : Nat, j < n → w1.cell? ⟨b2, o2 + j, none⟩ = some (.bool (S.getD j false))) := hid (fun j hj => (HB.out.cell (p := ⟨b2, o2 + j, none⟩) hb2).trans (HC2.out j hj))
  clear ca cb HC2
  have hn0 : ((n : Int)).toNat = n := rfl
  by_cases hfar : (n : Int) < (k : Int) + 1 + a
  · have HLa := leapt_len (L := n - (k + 1)) HA.out HS.out (Or.inr ⟨rfl, by omega⟩)
    have HL := hid HLa; clear HLa
    go_wp2_with fail
    all_goals
      generalize hL : n - (k + 1) = L at HL ⊢
      have hL2 : L ≤ n - (k + 1) := by omega
      clear hL
      have hg : ∃ g, (g = o2 ∧ L = 0) ∨ g = o2 + (k + 1) := ⟨o2 + (k + 1), Or.inr rfl⟩
      first
        | generalize hgo : o2 + (k + 1) = g
          have hgg : L = 0 ∨ g = o2 + (k + 1) := Or.inr hgo.symm
        | generalize hgo : (⟨b2, o2, none⟩ : Addr) = G
          obtain ⟨g, hgo2⟩ : ∃ g, o2 = g := ⟨_, rfl⟩
          have hgg : L = 0 ∨ g = o2 + (k + 1) := Or.inl (by omega)
          subst hgo
          subst hgo2
      have HC4 : Hid (∀ j : Nat, j < L → w1.cell? ⟨b2, g + j, none⟩ = some (.bool ((S.drop (k + 1)).getD j false))) := hid (fun j hj => by
        rcases hgg with h | h
        · omega
        · have := HC3.out (k + 1 + j) (by omega)
          rw [h, Nat.add_assoc, this, List.getD_eq_getElem?_getD, List.getD_eq_getElem?_getD, List.getElem?_drop])
      have HDL : Hid (L ≤ (S.drop (k + 1)).length) := hid (by rw [List.length_drop, HS.out]; exact hL2)
      clear hgg HC3 hg
      try clear hgo
      obtain ⟨D, hD⟩ : ∃ D, S.drop (k + 1) = D := ⟨_, rfl⟩
      rw [hD] at HC4 HDL HL
      clear hD
      go_loopw [7, 24] (fun d i wr => ∃ j : Nat, j ≤ L ∧ i = .int .i64 j ∧ d = .int .i64 ((((D.take j).count true : Nat)) : Int) ∧ Hid (Below w1.heap.size w1 wr)) (fun _ i _ => L - (RowKit.intOf i).toNat)
      case atStart => exact ⟨0, Nat.zero_le _, rfl, rfl, hid (Below.refl _ _)⟩
      case round =>
        obtain ⟨j, hj, rfl, rfl, hbel⟩ := hrel
        by_cases hlt : j < L
        · have hc0 := HC4.out j hlt
          have hc1 := (hbel.out.cell (p := ⟨b2, g + j, none⟩) (Nat.lt_of_lt_of_le hb2 HB.out.size)).trans hc0
          clear hc0
          obtain ⟨b, hb⟩ : ∃ b, D.getD j false = b := ⟨_, rfl⟩
          rw [hb] at hc1
          have HN := hid (count_succ D j b (by have := HDL.out; omega) hb)
          clear hb
          have hlim := count_lim D j
          obtain ⟨q, hq⟩ : ∃ q, (D.take j).count true = q := ⟨_, rfl⟩
          rw [hq] at hlim HN ⊢
          clear hq
          cases b
          · go_wp2_with fail
            all_goals
              go_roundw
              all_goals first | (exact ⟨j + 1, by omega, by go_num, by rw [HN.out]; rfl, hbel⟩) | (simp [RowKit.intOf]; omega)
          · go_wp2_with fail
            all_goals
              go_roundw
              all_goals first | (exact ⟨j + 1, by omega, by go_num, by rw [HN.out]; go_num, hbel⟩) | (simp [RowKit.intOf]; omega)
        · obtain rfl : j = L := by omega
          go_wp2_with fail
          go_ret
          exact ⟨by rw [HL.out]; rfl, HB.out.trans (hbel.out.mono HB.out.size)⟩
  · have HLa := leapt_len (L := ((k : Int) + 1 + a).toNat - (k + 1)) HA.out HS.out (Or.inl (by omega))
    have HL := hid HLa; clear HLa
    go_wp2_with fail
    all_goals
      generalize hL : ((k : Int) + 1 + a).toNat - (k + 1) = L at HL ⊢
      have hL2 : L ≤ n - (k + 1) := by omega
      clear hL
      have hg : ∃ g, (g = o2 ∧ L = 0) ∨ g = o2 + (k + 1) := ⟨o2 + (k + 1), Or.inr rfl⟩
      first
        | generalize hgo : o2 + (k + 1) = g
          have hgg : L = 0 ∨ g = o2 + (k + 1) := Or.inr hgo.symm
        | generalize hgo : (⟨b2, o2, none⟩ : Addr) = G
          obtain ⟨g, hgo2⟩ : ∃ g, o2 = g := ⟨_, rfl⟩
          have hgg : L = 0 ∨ g = o2 + (k + 1) := Or.inl (by omega)
          subst hgo
          subst hgo2
      have HC4 : Hid (∀ j : Nat, j < L → w1.cell? ⟨b2, g + j, none⟩ = some (.bool ((S.drop (k + 1)).getD j false))) := hid (fun j hj => by
        rcases hgg with h | h
        · omega
        · have := HC3.out (k + 1 + j) (by omega)
          rw [h, Nat.add_assoc, this, List.getD_eq_getElem?_getD, List.getD_eq_getElem?_getD, List.getElem?_drop])
      have HDL : Hid (L ≤ (S.drop (k + 1)).length) := hid (by rw [List.length_drop, HS.out]; exact hL2)
      clear hgg HC3 hg
      try clear hgo
      obtain ⟨D, hD⟩ : ∃ D, S.drop (k + 1) = D := ⟨_, rfl⟩
      rw [hD] at HC4 HDL HL
      clear hD
      go_loopw [7, 24] (fun d i wr => ∃ j : Nat, j ≤ L ∧ i = .int .i64 j ∧ d = .int .i64 ((((D.take j).count true : Nat)) : Int) ∧ Hid (Below w1.heap.size w1 wr)) (fun _ i _ => L - (RowKit.intOf i).toNat)
      case atStart => exact ⟨0, Nat.zero_le _, rfl, rfl, hid (Below.refl _ _)⟩
      case round =>
        obtain ⟨j, hj, rfl, rfl, hbel⟩ := hrel
        by_cases hlt : j < L
        · have hc0 := HC4.out j hlt
          have hc1 := (hbel.out.cell (p := ⟨b2, g + j, none⟩) (Nat.lt_of_lt_of_le hb2 HB.out.size)).trans hc0
          clear hc0
          obtain ⟨b, hb⟩ : ∃ b, D.getD j false = b := ⟨_, rfl⟩
          rw [hb] at hc1
          have HN := hid (count_succ D j b (by have := HDL.out; omega) hb)
          clear hb
          have hlim := count_lim D j
          obtain ⟨q, hq⟩ : ∃ q, (D.take j).count true = q := ⟨_, rfl⟩
          rw [hq] at hlim HN ⊢
          clear hq
          cases b
          · go_wp2_with fail
            all_goals
              go_roundw
              all_goals first | (exact ⟨j + 1, by omega, by go_num, by rw [HN.out]; rfl, hbel⟩) | (simp [RowKit.intOf]; omega)
          · go_wp2_with fail
            all_goals
              go_roundw
              all_goals first | (exact ⟨j + 1, by omega, by go_num, by rw [HN.out]; go_num, hbel⟩) | (simp [RowKit.intOf]; omega)
        · obtain rfl : j = L := by omega
          go_wp2_with fail
          go_ret
          exact ⟨by rw [HL.out]; rfl, HB.out.trans (hbel.out.mono HB.out.size)⟩

end Go.Proofs.YtfohdoahddommaaDoor
