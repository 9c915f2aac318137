/- Layer 4, code: a program's bytes: plain facts; Put, and the document's. -/
import Derived.Test.YtpjoeljjhgchpaaDoorCodD
import Derived.Test.YtpjoeljjhgchpaaDoorOctO
import Derived.Test.YtpjoeljjhgchpaaDoorRef1
namespace Go.Proofs.YtpjoeljjhgchpaaDoor
open Go.RowKit Go.Lib
set_option linter.unusedVariables false

/-- A program's numbers. -/
def numsL (l : List (Int × Int)) : List Int := (l.length : Int) :: l.flatMap fun x => [x.1, x.2]

/-- As many of them as k instructions have. -/
def numsTo (l : List (Int × Int)) (k : Nat) : List Int := (l.length : Int) :: (l.take k).flatMap fun x => [x.1, x.2]

theorem numsTo_len (l : List (Int × Int)) (k : Nat) (h : k ≤ l.length) : (numsTo l k).length = 1 + 2 * k := by
  have key : ∀ q : List (Int × Int), (q.flatMap fun x => [x.1, x.2]).length = 2 * q.length := by
    intro q
    induction q with
    | nil => rfl
    | cons x q ih => simp only [List.flatMap_cons, List.length_append, List.length_cons, List.length_nil] at ih ⊢; omega
  unfold numsTo
  rw [List.length_cons, key, List.length_take]
  omega

theorem numsTo_snoc {l : List (Int × Int)} {k : Nat} (h : k < l.length) : numsTo l (k + 1) = numsTo l k ++ [(l.getD k (0, 0)).1, (l.getD k (0, 0)).2] := by
  unfold numsTo
  rw [List.take_succ_eq_append_getElem h, List.flatMap_append, List.getD_eq_getElem?_getD, List.getElem?_eq_getElem h]
  rfl

theorem numsTo_all (l : List (Int × Int)) : numsTo l l.length = numsL l := by unfold numsTo numsL; rw [List.take_of_length_le (Nat.le_refl _)]

theorem nums_small {l : List (Int × Int)} (h : fitsL l = true) : ∀ n ∈ numsL l, Num32 n := by
  obtain ⟨h1, h2⟩ := (fitsL_iff l).1 h
  intro n hn
  unfold numsL at hn
  rcases List.mem_cons.1 hn with rfl | hn
  · exact ⟨by omega, by omega⟩
  · obtain ⟨x, hx, hn⟩ := List.mem_flatMap.1 hn
    have := rightI_bounds (List.all_eq_true.1 h2 x hx)
    simp at hn
    rcases hn with rfl | rfl
    · exact ⟨by omega, by omega⟩
    · exact ⟨by omega, by omega⟩

theorem SlI.of_own {w : World} {B : Nat} {t : TypeId} {k : IntKind} {v : Value} {zs : List Int} (h : w.ownsRow B t 1 v zs.length (zs.map (Value.int k))) : SlI w w.heap.size k v zs := by
  rcases h.2 with ⟨rfl, hn⟩ | ⟨g, cap, cur, rfl, hb, hg, hc, hm, hs, hx⟩
  · have : zs = [] := List.eq_nil_of_length_eq_zero hn
    subst this
    exact ⟨none, 0, rfl, Nat.le_refl _, fun h => absurd h (by simp)⟩
  · refine ⟨_, cap, rfl, hc, fun _ => ⟨g, 0, rfl, (Array.getElem?_eq_some_iff.1 hg).1, fun j hj => ?_⟩⟩
    rw [Nat.zero_add, h.cellAt _ (by omega)]
    simp [hj]

theorem nums_own {w : World} {B : Nat} {t : TypeId} {v : Value} {l : List (Int × Int)} (h : w.ownsRow B t 1 v (1 + 2 * l.length) ((numsTo l l.length).map (Value.int .i64))) : SlI w w.heap.size .i64 v (numsL l) := by
  rw [← numsTo_all]
  refine SlI.of_own (B := B) (t := t) ?_
  rw [← numsTo_len l l.length (Nat.le_refl _)] at h
  exact h

theorem intInfo : (Tryd.prog.info? 3).map (fun i => (i.zero, i.size, i.bytes)) = some (some (.int .i64 0), 1, 8) := by kernel_rfl

theorem cput_nil (v : Value) (w : World) : Calls Tryd.prog 15 #[.pointer none, v] w fun e w' => e = .returned (.int .i64 1) ∧ w' = w := by
  go_enter Tryd.func15, Tryd.ntmps15
  go_wp2_with fail
  go_ret
  exact ⟨rfl, rfl⟩

theorem cput_bad (b o : Nat) (v : Value) (l : List (Int × Int)) (hf : Hid (fitsL l = false)) (hl : l.length ≤ 1000000000000) (w : World) (hv : SlV w w.heap.size v l) :
    Calls Tryd.prog 15 #[.pointer (some ⟨b, o, none⟩), v] w fun e w' => e = .returned (.int .i64 1) ∧ Below w.heap.size w w' := by
  have HV := hid hv; clear hv
  go_enter Tryd.func15, Tryd.ntmps15
  go_wp2_with fail
  refine (fits_any _ l false hf hl _ HV.out).mono ?_
  rintro e w1 ⟨rfl, hb⟩
  go_wp2_with fail
  go_ret
  exact ⟨rfl, hb⟩

set_option maxRecDepth 100000 in
set_option maxHeartbeats 2000000 in
theorem cput_ok (b o : Nat) (bs : List UInt8) (v : Value) (l : List (Int × Int)) (hf : Hid (fitsL l = true)) (hbl : bs.length ≤ 100000000000) (w : World) (hv : SlV w w.heap.size v l) (hw : WrAt w b o bs) :
    Calls Tryd.prog 15 #[.pointer (some ⟨b, o, none⟩), v] w fun e w' => e = .returned (.int .i64 0) ∧ WrAt w' b o (bs ++ encs (numsL l)) ∧ w.grownBy w' (some b) := by
  have h24 := ((fitsL_iff l).1 hf.out).1
  have HV := hid hv; have HW := hid hw; clear hw
  obtain ⟨A, c, rfl, hc, hA⟩ := hv
  have HA := hid hA; clear hA
  obtain ⟨i0, hi, hz0, hz1, hz2⟩ := info_parts intInfo
  go_enter Tryd.func15, Tryd.ntmps15
  go_wp2_with fail
  refine (fits_any _ l true hf (by omega) _ HV.out).mono ?_
  rintro e w1 ⟨rfl, hb⟩
  have HB1 := hid hb; clear hb
  have HB2 := hid (HB1.out.alloc HB1.out.size (.cells #[.int .i64 l.length] 3))
  have HO : Hid ((w1.alloc (.cells #[.int .i64 l.length] 3)).ownsRow w1.heap.size 3 1 (.slice (some ⟨w1.heap.size, 0, none⟩) 1 1) 1 [.int .i64 l.length]) := hid (World.ownsRow_lit (base := w1.heap.size) (size := 1) (e := 3) w1 #[.int .i64 l.length] 1 (Nat.le_refl _) (by unfold maxLen; omega) rfl)
  have hwn : w.heap.size ≤ w1.heap.size := HB1.out.size
  go_wp2_with fail
  go_loopw [5, 20] (fun s i wr => ∃ k : Nat, k ≤ l.length ∧ i = .int .i64 k ∧ Hid (wr.ownsRow w1.heap.size 3 1 s (1 + 2 * k) ((numsTo l k).map (Value.int .i64))) ∧ Hid (Below w.heap.size w wr) ∧ w1.heap.size ≤ wr.heap.size) (fun _ i _ => l.length - (RowKit.intOf i).toNat)
  case atStart => exact ⟨0, Nat.zero_le _, rfl, HO, HB2, by simp⟩
  case round =>
    clear HO HB2
    obtain ⟨k, hk, rfl, hown, hbel, hs1⟩ := hrel
    by_cases hlt : k < l.length
    · obtain ⟨b1, o1, rfl, hbB, hcell⟩ := HA.out (by omega)
      obtain ⟨ca, cb⟩ := hcell k hlt
      obtain ⟨op, a, hoa⟩ := pair_of (p := l.getD k (0, 0))
      rw [hoa] at ca cb
      have HOA := hid hoa; clear hoa hcell
      have ca' := (hbel.out.cell (p := ⟨b1, o1 + k * 2, none⟩) hbB).trans ca
      have cb' := (hbel.out.cell (p := ⟨b1, o1 + k * 2 + 1, none⟩) hbB).trans cb
      clear ca cb
      have HB3 := hid (hbel.out.alloc hbel.out.size (.cells #[.int .i64 op, .int .i64 a] 27))
      have HB4 := hid (HB3.out.alloc HB3.out.size (.cells #[.int .i64 op, .int .i64 a] 3))
      have HO4 := hid ((hown.out.alloc (.cells #[.int .i64 op, .int .i64 a] 27)).alloc (.cells #[.int .i64 op, .int .i64 a] 3))
      have HC : Hid (∀ j u, [Value.int .i64 op, Value.int .i64 a][j]? = some u → ((wr.alloc (.cells #[.int .i64 op, .int .i64 a] 27)).alloc (.cells #[.int .i64 op, .int .i64 a] 3)).cell? ((⟨wr.heap.size + 1, 0, none⟩ : Addr).add j) = some u) := hid (fun j u hj => by
        have := new_cells (wr.alloc (.cells #[.int .i64 op, .int .i64 a] 27)) #[.int .i64 op, .int .i64 a] 3 j u (by simpa using hj)
        rw [World.size_alloc] at this
        exact this)
      have hs4 : w1.heap.size ≤ ((wr.alloc (.cells #[.int .i64 op, .int .i64 a] 27)).alloc (.cells #[.int .i64 op, .int .i64 a] 3)).heap.size := by simp only [World.size_alloc]; omega
      go_wp2_with (at_builtin; refine wpList_append_own _ rfl (.tmp 24) (.tmp 29) 64 rfl w1.heap.size 3 i0 (.int .i64 0) 1 8 Tryd.underlying64 hi hz0 hz1 hz2 rfl (by decide) _ _ _ rfl HO4.out ⟨wr.heap.size + 1, 0, none⟩ 2 2 [.int .i64 op, .int .i64 a] rfl rfl HC.out (by intro u hu; simp at hu; rcases hu with rfl | rfl <;> rfl) (by unfold maxLen; omega) (by omega) hs4 ?_; intro s' w3 hown3 hg3 _)
      go_roundw
      case rel =>
        refine ⟨k + 1, by omega, by go_num, hid ?_, hid ?_, Nat.le_trans hs4 hg3.size⟩
        · rw [numsTo_snoc hlt, HOA.out, List.map_append, show 1 + 2 * (k + 1) = 1 + 2 * k + 2 by omega]
          exact hown3
        · exact HB4.out.grown hg3 HB4.out.size (fun g hg => Nat.le_trans hwn (HO4.out.lt g hg).1)
      case measure => simp [RowKit.intOf]; omega
    · obtain rfl : k = l.length := by omega
      have HS := hid (nums_own hown.out)
      have hln : (numsL l).length = 1 + 2 * l.length := by rw [← numsTo_all, numsTo_len l _ (Nat.le_refl _)]
      have HLN := hid hln; clear hln
      go_wp2_with fail
      refine (wnum_ok b o bs _ (numsL l) wr (HW.out.below hbel.out) HS.out (nums_small hf.out) (by rw [HLN.out]; omega) hbl).mono ?_
      rintro e w2 ⟨rfl, hw2, hg2⟩
      have HW2 := hid hw2; have HG2 := hid hg2; clear hw2 hg2
      go_wp2_with fail
      go_ret
      exact ⟨rfl, HW2.out, turned_trans (turned_below hbel.out _) HG2.out⟩

theorem encs_append (a b : List Int) : encs (a ++ b) = encs a ++ encs b := by unfold encs; rw [List.flatMap_append]

theorem encs_to {l : List (Int × Int)} {k : Nat} (h : k < l.length) : encs (numsTo l (k + 1)) = encs (numsTo l k) ++ (enc32 (l.getD k (0, 0)).1 ++ enc32 (l.getD k (0, 0)).2) := by
  rw [numsTo_snoc h, encs_append]
  simp [encs]

theorem put_from {W : World} (n : Int) (S : ByteArray) (h : Hid (Num32 n)) (hS : Hid (S = ⟨(enc32 n).toArray⟩)) (w : World) (hb : Hid (Below W.heap.size W w)) :
    Calls Tryd.prog 35 #[.int .i64 n] w fun e w' => e = .returned (.string S) ∧ Hid (Below W.heap.size W w') :=
  (put_num n w h.out S hS.out).mono fun e w' ⟨he, hw⟩ => ⟨he, hid (hb.out.trans (hw.mono hb.out.size))⟩

theorem right_num32 {o a : Int} (h : rightI (o, a) = true) : Num32 o ∧ Num32 a := by
  have := rightI_bounds h
  exact ⟨⟨by have := this.1; simp only at this; omega, by have := this.2.1; simp only at this; omega⟩, ⟨by have := this.2.2.1; simp only at this; omega, by have := this.2.2.2; simp only at this; omega⟩⟩

set_option maxRecDepth 100000 in
set_option maxHeartbeats 2000000 in
theorem rput_any (v : Value) (l : List (Int × Int)) (T : ByteArray) (hT : Hid ((⟨(encs (numsL l)).toArray⟩ : ByteArray) = T)) (hf : Hid (fitsL l = true)) (w : World) (hv : SlV w w.heap.size v l) :
    Calls Tryd.prog 19 #[v] w fun e w' => e = .returned (.string T) ∧ Below w.heap.size w w' := by
  obtain ⟨h24, hall⟩ := (fitsL_iff l).1 hf.out
  have HAL := hid hall; clear hall
  obtain ⟨A, c, rfl, hc, hA⟩ := hv
  have HA := hid hA; clear hA
  obtain ⟨P0, hP0⟩ : ∃ P : ByteArray, P = ⟨(enc32 (l.length : Int)).toArray⟩ := ⟨_, rfl⟩
  have hs0 : P0.size ≤ 4 := by rw [hP0, size_mk, enc32_len]; exact Nat.le_refl _
  have HP0 := hid hP0; clear hP0
  go_enter Tryd.func19, Tryd.ntmps19
  go_wp2_with fail
  refine (put_num (l.length : Int) _ ⟨by omega, by omega⟩ P0 HP0.out).mono ?_
  rintro e w1 ⟨rfl, hb⟩
  have HB1 := hid hb; clear hb
  go_wp2_with fail
  go_loopw [3, 4] (fun s i wr => ∃ (k : Nat) (P : ByteArray), k ≤ l.length ∧ i = .int .i64 k ∧ s = .string P ∧ P.size ≤ 4 + 8 * k ∧ Hid (P.data.toList = encs (numsTo l k)) ∧ Hid (Below w.heap.size w wr)) (fun _ i _ => l.length - (RowKit.intOf i).toNat)
  case atStart => exact ⟨0, P0, Nat.zero_le _, rfl, rfl, hs0, hid (by rw [HP0.out]; simp [numsTo, encs]), HB1⟩
  case round =>
    clear HB1
    obtain ⟨k, P, hk, rfl, rfl, hP, HP, hbel⟩ := hrel
    by_cases hlt : k < l.length
    · obtain ⟨b1, o1, rfl, hbB, hcell⟩ := HA.out (by omega)
      obtain ⟨ca, cb⟩ := hcell k hlt
      obtain ⟨o, a, hoa⟩ := pair_of (p := l.getD k (0, 0))
      rw [hoa] at ca cb
      have HOA := hid hoa; clear hoa hcell
      have ca' := (hbel.out.cell (p := ⟨b1, o1 + k * 2, none⟩) hbB).trans ca
      have cb' := (hbel.out.cell (p := ⟨b1, o1 + k * 2 + 1, none⟩) hbB).trans cb
      have l0 := Nat.lt_of_lt_of_le hbB hbel.out.size
      clear ca cb
      have hR : rightI (o, a) = true := by
        have := List.all_eq_true.1 HAL.out (l[k]'hlt) (List.getElem_mem hlt)
        have e := HOA.out
        rw [List.getD_eq_getElem?_getD, List.getElem?_eq_getElem hlt] at e
        rw [← e]; exact this
      have HNo := hid (right_num32 hR).1
      have HNa := hid (right_num32 hR).2
      clear hR
      have hk0 : (0 : Int) ≤ (k : Int) := by omega
      have hk1 : (k : Int) < (l.length : Int) := by omega
      obtain ⟨E1, hE1⟩ : ∃ P : ByteArray, P = ⟨(enc32 o).toArray⟩ := ⟨_, rfl⟩
      obtain ⟨E2, hE2⟩ : ∃ P : ByteArray, P = ⟨(enc32 a).toArray⟩ := ⟨_, rfl⟩
      have z1 : E1.size = 4 := by rw [hE1]; rfl
      have z2 : E2.size = 4 := by rw [hE2]; rfl
      have HE1 := hid hE1; have HE2 := hid hE2; clear hE1 hE2
      have m1 : ¬ 9223372036854775807 < P.size + E1.size := by omega
      have m2 : ¬ 9223372036854775807 < P.size + E1.size + E2.size := by omega
      have m3 : ¬ 9223372036854775807 < P.size + 4 := by omega
      have m4 : ¬ 9223372036854775807 < P.size + 4 + 4 := by omega
      have hb0 : Hid (Below wr.heap.size wr wr.drew) := hid (Below.refl _ wr).drew
      go_wp2_with fail
      go_region_law (first
        | (go_simp; go_at_call 35; (first | ((with_reducible refine (put_from (W := wr) o E1 HNo HE1 _ ?_).mono ?_); assumption; rintro e w' ⟨rfl, hb⟩; obtain ⟨hc, hf⟩ := bcell hb.out) | ((with_reducible refine (put_from (W := wr) a E2 HNa HE2 _ ?_).mono ?_); assumption; rintro e w' ⟨rfl, hb⟩; obtain ⟨hc, hf⟩ := bcell hb.out))))
      all_goals
        go_wp2_with fail
        go_roundw
        case rel => exact ⟨k + 1, P ++ E1 ++ E2, by omega, by go_num, rfl, by rw [ByteArray.size_append, ByteArray.size_append]; omega, hid (by rw [encs_to hlt, HOA.out, bytes_append, bytes_append, HP.out, HE1.out, HE2.out]; simp), hid (hbel.out.trans (hb.out.mono hbel.out.size))⟩
        case measure => simp [RowKit.intOf]; omega
    · obtain rfl : k = l.length := by omega
      go_wp2_with fail
      go_ret
      exact ⟨by rw [← hT.out, ← numsTo_all, ← HP.out, mk_data]; rfl, hbel.out⟩

end Go.Proofs.YtpjoeljjhgchpaaDoor
