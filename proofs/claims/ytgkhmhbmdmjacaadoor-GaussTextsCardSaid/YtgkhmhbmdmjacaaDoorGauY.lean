/- Layer 3, gauss: strings.LastIndexAny(s, "+-"). -/
import Derived.Test.YtgkhmhbmdmjacaaDoorGauX
import Derived.Shelf.Strings.AsciiSet
import Derived.Lib.Builder
import Derived.Deep.LoopGhost
namespace Go.Proofs.YtgkhmhbmdmjacaaDoor
open Go.RowKit Go.Lib
set_option linter.unusedVariables false

theorem zero49 : (Tryd.prog.info? 49).map (fun i => (i.zero, i.size)) = some (some (.agg (Array.replicate 256 (.bool false))), 256) := by kernel_rfl

theorem sgn_two (x : UInt8) : ([43, 45] : List UInt8).contains x = decide (Sgn x) := by
  unfold Sgn
  simp only [List.contains_cons, List.contains_nil, Bool.or_false]
  have h : ∀ n : UInt8, (x == n) = decide (x.toNat = n.toNat) := fun n => by
    by_cases e : x = n
    · subst e; simp
    · rw [decide_eq_false (fun e' => e (UInt8.toNat_inj.1 e')), beq_eq_false_iff_ne.2 e]
  rw [h, h]
  rw [← Bool.decide_or]
  rfl

set_option maxHeartbeats 8000000 in
set_option maxRecDepth 100000 in
theorem last_long (S T : ByteArray) (hT : Hid (T.data.toList = [43, 45])) (h8 : 8 < S.size) (hs : S.size ≤ 1000) (w : World) :
    Calls Tryd.prog 16 #[.string S, .string T] w fun e w' => (∃ r, e = .returned (.int .i64 r) ∧ LastIs S.data.toList r) ∧ Below w.heap.size w w' := by
  have hv49 := (zero_of_info zero49).1
  have hi49 := (zero_of_info zero49).2
  have htz : T.size = 2 := by
    have h1 : T.data.toList.length = T.size := by simp
    rw [hT.out] at h1
    exact h1.symm
  have hM := Tryd.strings_makeASCIISet hv49 T w (by omega) (by
    intro j b hb
    rw [hT.out] at hb
    rcases j with _ | _ | j
    · simp at hb; subst hb; decide
    · simp at hb; subst hb; decide
    · simp at hb)
  have hemp : T.toList.isEmpty = false := by
    rw [toList_data, hT.out]; rfl
  have hn1 : ((T.size : Int) == 1) = false := beq_eq_false_iff_ne.2 (by omega)
  have hs1 : ((S.size : Int) == 1) = false := beq_eq_false_iff_ne.2 (by omega)
  have h8z : decide ((8 : Int) < (S.size : Int)) = true := decide_eq_true (by omega)
  have hsc : (storeCells ⟨w.heap.size + 1, 0, none⟩ (setCells T.data.toList).toList 0).run Tryd.prog ((w.alloc (.cells (setCells T.data.toList) 49)).alloc (.cells (Array.replicate 256 (.bool false)) 49)) = .ok () ((w.alloc (.cells (setCells T.data.toList) 49)).alloc (.cells (setCells T.data.toList) 49)) := by
    have := run_storeCells_new (P := Tryd.prog) (w.alloc (.cells (setCells T.data.toList) 49)) 49 (Array.replicate 256 (.bool false)) (setCells T.data.toList) (by rw [setCells_size]; exact hi49) (by rw [setCells_size, Array.size_replicate]) (setCells_one _)
    simpa using this
  have hsz := setCells_size T.data.toList
  have HC : Hid (∀ x : UInt8, ((w.alloc (.cells (setCells T.data.toList) 49)).alloc (.cells (setCells T.data.toList) 49)).cell? ⟨w.heap.size + 1, x.toNat, none⟩ = some (.bool (decide (Sgn x)))) := hid fun x => by
    rw [World.cell?_alloc_at _ _ _ _ (by simp), setCells_at, hT.out, sgn_two]
  go_enter Tryd.func16, Tryd.ntmps16
  go_wp2_with (first
    | (go_at_call 24; refine (Tryd.strings_shouldUseASCIISet _ _).mono ?_; rintro e w' ⟨rfl, hw⟩; rw [hw, h8z])
    | (go_at_call 25; refine hM.mono ?_; rintro e w' ⟨rfl, hw⟩; rw [hw]))
  clear hM hsc hemp hn1 hs1 h8z hsz hv49 hi49
  obtain ⟨W, hW⟩ : ∃ W : World, (w.alloc (.cells (setCells T.data.toList) 49)).alloc (.cells (setCells T.data.toList) 49) = W := ⟨_, rfl⟩
  have HB : Hid (Below w.heap.size w W) := hid (hW ▸ ((Below.refl _ w).alloc (Nat.le_refl _) _).alloc (by simp) _)
  rw [hW] at HC ⊢
  clear hW
  generalize w.heap.size + 1 = g6 at HC ⊢
  go_loopg [8] S.size (fun g s8 wx => g ≤ S.size ∧ s8 = .int .i64 ((g : Int) - 1) ∧ wx = W ∧ Hid (∀ j, g ≤ j → j < S.size → ¬ Sgn (S.data.toList.getD j 0)))
  case atStart => 
    refine ⟨Nat.le_refl _, ?_, rfl, hid fun j h1 h2 => by omega⟩
    first | rfl | (rw [IntKind.wrap_i64]; congr 1; omega)
  case round =>
    obtain ⟨hg, rfl, rfl, HN⟩ := hrel
    cases gk with
    | zero =>
      go_wp2
      go_ret
      exact ⟨⟨_, rfl, .inl ⟨fun j hj => HN.out j (by omega) (by simpa using hj), rfl⟩⟩, HB.out⟩
    | succ g =>
      have he : (((g + 1 : Nat) : Int) - 1) = (g : Int) := by omega
      have hi : g < S.size := by omega
      rw [he]
      obtain ⟨x, hx⟩ : ∃ x : UInt8, S[g]'hi = x := ⟨_, rfl⟩
      have hxl : S.data.toList.getD g 0 = x := by
        rw [List.getD_eq_getElem?_getD, data_getElem? S g hi, hx]; rfl
      have HX := hid hxl; clear hxl
      have hcx := HC.out x
      cases hin : decide (Sgn x) <;> rw [hin] at hcx <;> have HI := hid hin <;> clear hin
      · go_wp2_with (go_at_call 26; refine (Tryd.asciiSet_contains _ x _ _ hcx).mono ?_; rintro e w' ⟨rfl, hw⟩; rw [hw])
        go_roundg g
        case measure => omega
        case rel =>
          refine ⟨by omega, ?_, rfl, hid fun j h1 h2 => ?_⟩
          · first | rfl | (rw [IntKind.wrap_i64]; congr 1; omega)
          · by_cases e : j = g
            · subst e; rw [HX.out]; exact of_decide_eq_false HI.out
            · exact HN.out j (by omega) h2
      · go_wp2_with (go_at_call 26; refine (Tryd.asciiSet_contains _ x _ _ hcx).mono ?_; rintro e w' ⟨rfl, hw⟩; rw [hw])
        go_ret
        exact ⟨⟨_, rfl, .inr ⟨g, ⟨by simpa using hi, by rw [HX.out]; exact of_decide_eq_true HI.out, fun j h1 h2 => HN.out j h1 (by simpa using h2)⟩, rfl⟩⟩, HB.out⟩

theorem two_is {T : ByteArray} (h : T.data.toList = [43, 45]) : T = ⟨#[43, 45]⟩ := by
  cases T with
  | mk d => congr 1; exact Array.ext' h

theorem noSgn_one {l : List UInt8} {x : UInt8} (hl : l.length = 1) (hx : l.getD 0 0 = x) (h : ¬ Sgn x) : NoSgn l := by
  intro j hj
  rw [hl] at hj
  obtain rfl : j = 0 := by omega
  rw [hx]; exact h

theorem lastAt_one {l : List UInt8} {x : UInt8} (hl : l.length = 1) (hx : l.getD 0 0 = x) (h : Sgn x) : LastAt l 0 := by
  refine ⟨by omega, by rw [hx]; exact h, fun j h1 h2 => by omega⟩

theorem idx_yes (T : ByteArray) (hT : Hid (T.data.toList = [43, 45])) (r : Int) (h : r = 43 ∨ r = 45) (w : World) :
    Calls Tryd.prog 23 #[.string T, .int .i32 r] w fun e w' => (∃ q : Int, 0 ≤ q ∧ e = .returned (.int .i64 q)) ∧ Below w.heap.size w w' := by
  refine (Tryd.strings_IndexRune_ascii T r w (by omega) (by omega)).mono ?_
  rintro e w' ⟨rfl, rfl⟩
  refine ⟨⟨_, ?_, rfl⟩, Below.refl _ _⟩
  rw [hT.out]
  rcases h with rfl | rfl <;> decide

theorem idx_no (T : ByteArray) (hT : Hid (T.data.toList = [43, 45])) (r : Int) (h0 : 0 ≤ r) (h1 : r ≤ 1114111) (h : ¬ (r = 43 ∨ r = 45)) (w : World) :
    Calls Tryd.prog 23 #[.string T, .int .i32 r] w fun e w' => e = .returned (.int .i64 (-1)) ∧ Below w.heap.size w w' := by
  by_cases ha : r < 128
  · refine (Tryd.strings_IndexRune_ascii T r w h0 ha).mono ?_
    rintro e w' ⟨rfl, rfl⟩
    refine ⟨?_, Below.refl _ _⟩
    rw [hT.out]
    have hu : (r.toNat.toUInt8).toNat = r.toNat := by simp; omega
    have e1 : ((43 : UInt8) == r.toNat.toUInt8) = false := beq_eq_false_iff_ne.2 fun e => by
      have := congrArg UInt8.toNat e
      rw [hu] at this
      have h43 : (43 : UInt8).toNat = 43 := rfl
      omega
    have e2 : ((45 : UInt8) == r.toNat.toUInt8) = false := beq_eq_false_iff_ne.2 fun e => by
      have := congrArg UInt8.toNat e
      rw [hu] at this
      have h43 : (45 : UInt8).toNat = 45 := rfl
      omega
    simp [indexByte, e1, e2]
  · have hE := two_is hT.out
    subst hE
    by_cases hr : r = 65533
    · subst hr; exact idx_err w
    · cases hv : Lib.validRune r with
      | false => exact idx_bad r (by omega) h1 hr hv w
      | true => exact idx_val r (by omega) h1 hr hv w

set_option maxHeartbeats 1000000 in
set_option maxRecDepth 100000 in
theorem last_one (S T : ByteArray) (hT : Hid (T.data.toList = [43, 45])) (h1 : S.size = 1) (w : World) :
    Calls Tryd.prog 16 #[.string S, .string T] w fun e w' => (∃ r, e = .returned (.int .i64 r) ∧ LastIs S.data.toList r) ∧ Below w.heap.size w w' := by
  have hemp : T.toList.isEmpty = false := by
    rw [toList_data, hT.out]; rfl
  have hi : 0 < S.size := by omega
  obtain ⟨x, hx⟩ : ∃ x : UInt8, S[0]'hi = x := ⟨_, rfl⟩
  have hl : S.data.toList.length = 1 := by simpa using h1
  have hxl : S.data.toList.getD 0 0 = x := by
    rw [List.getD_eq_getElem?_getD, data_getElem? S 0 hi, hx]; rfl
  have HX := hid hxl; have HL := hid hl; clear hxl hl
  have hw : IntKind.i32.wrap (x.toNat : Int) = (x.toNat : Int) := by
    have := x.toNat_lt
    rw [IntKind.wrap_i32]; omega
  by_cases ha : x.toNat < 128
  · have hd : decide ((128 : Int) ≤ (x.toNat : Int)) = false := decide_eq_false (by omega)
    by_cases hS : Sgn x
    · have HS := hid hS; clear hS
      go_enter Tryd.func16, Tryd.ntmps16
      go_wp2_with fail
      refine (idx_yes T hT _ (by have := HS.out; unfold Sgn at this; omega) _).mono ?_
      rintro e w1 ⟨⟨q, hq, rfl⟩, hb⟩
      have hqd : decide (0 ≤ q) = true := decide_eq_true hq
      have HB := hid hb; clear hb
      go_wp2_with fail
      go_ret
      exact ⟨⟨_, rfl, .inr ⟨0, lastAt_one HL.out HX.out HS.out, rfl⟩⟩, HB.out⟩
    · have HS := hid hS; clear hS
      go_enter Tryd.func16, Tryd.ntmps16
      go_wp2_with fail
      refine (idx_no T hT _ (by omega) (by omega) (by have := HS.out; unfold Sgn at this; omega) _).mono ?_
      rintro e w1 ⟨rfl, hb⟩
      have HB := hid hb; clear hb
      go_wp2_with fail
      go_ret
      exact ⟨⟨_, rfl, .inl ⟨noSgn_one HL.out HX.out HS.out, rfl⟩⟩, HB.out⟩
  · have hd : decide ((128 : Int) ≤ (x.toNat : Int)) = true := decide_eq_true (by omega)
    have HS : Hid (¬ Sgn x) := hid (by unfold Sgn; omega)
    clear ha
    go_enter Tryd.func16, Tryd.ntmps16
    go_wp2_with fail
    refine (idx_no T hT _ (by omega) (by omega) (by omega) _).mono ?_
    rintro e w1 ⟨rfl, hb⟩
    have HB := hid hb; clear hb
    go_wp2_with fail
    go_ret
    exact ⟨⟨_, rfl, .inl ⟨noSgn_one HL.out HX.out HS.out, rfl⟩⟩, HB.out⟩

theorem decLast_sgn (l : List UInt8) (i : Nat) (h0 : 0 < i) (h1 : i ≤ l.length) :
    1 ≤ (decodeLastL (l.take i)).2 ∧ (decodeLastL (l.take i)).2 ≤ i ∧ (decodeLastL (l.take i)).1 ≤ 1114111 ∧
    (((((decodeLastL (l.take i)).1 : Int) = 43 ∨ ((decodeLastL (l.take i)).1 : Int) = 45) ∧ (decodeLastL (l.take i)).2 = 1 ∧ Sgn (l.getD (i - 1) 0)) ∨
    (¬ (((decodeLastL (l.take i)).1 : Int) = 43 ∨ ((decodeLastL (l.take i)).1 : Int) = 45) ∧ ∀ j, i - (decodeLastL (l.take i)).2 ≤ j → j < i → ¬ Sgn (l.getD j 0))) := by
  have hl : (l.take i).length = i := by simp; omega
  have hg : (l.take i).getD (i - 1) 0 = l.getD (i - 1) 0 := getD_take (by omega)
  rcases decLast_cases (l.take i) (by omega) with ⟨a, b⟩ | ⟨a, b, c, d, e⟩
  · rw [hl, hg] at a b
    rw [b]
    refine ⟨Nat.le_refl _, h0, by simp only; omega, ?_⟩
    simp only
    by_cases hs : Sgn (l.getD (i - 1) 0)
    · refine .inl ⟨?_, trivial, hs⟩
      unfold Sgn at hs; omega
    · refine .inr ⟨?_, fun j h1 h2 => ?_⟩
      · unfold Sgn at hs; omega
      · obtain rfl : j = i - 1 := by omega
        exact hs
  · rw [hl] at d e
    refine ⟨c, d, b, .inr ⟨by omega, fun j h1 h2 => ?_⟩⟩
    have := e j h1 h2
    rw [getD_take h2] at this
    exact this

theorem dec_at (S : ByteArray) (i : Nat) (hi : i ≤ S.size) (hs : S.size ≤ 1000) (w : World) (hT : Lib.Utf8Tabs 4 5 w) :
    Calls Tryd.prog 27 #[.string (S.extract 0 i)] w fun e w' => e = .returned (.tuple #[.int .i32 (decodeLastL (S.data.toList.take i)).1, .int .i64 (decodeLastL (S.data.toList.take i)).2]) ∧ Below w.heap.size w w' := by
  have h : (S.extract 0 i).data.toList = S.data.toList.take i := by
    rw [ByteArray.data_extract, Array.toList_extract]; simp
  have := Tryd.utf8_DecodeLastRuneInString (S.extract 0 i) w (by rw [ByteArray.size_extract]; omega) hT
  rw [h] at this
  exact this

set_option maxHeartbeats 1000000 in
set_option maxRecDepth 100000 in
theorem last_short (S T : ByteArray) (hT : Hid (T.data.toList = [43, 45])) (h1 : ¬ S.size = 1) (h8 : S.size ≤ 8) (w : World) (ht : Hid (∀ w', Below w.heap.size w w' → Lib.Utf8Tabs 4 5 w')) :
    Calls Tryd.prog 16 #[.string S, .string T] w fun e w' => (∃ r, e = .returned (.int .i64 r) ∧ LastIs S.data.toList r) ∧ Below w.heap.size w w' := by
  have htz : T.size = 2 := by
    have h1 : T.data.toList.length = T.size := by simp
    rw [hT.out] at h1
    exact h1.symm
  have hemp : T.toList.isEmpty = false := by
    rw [toList_data, hT.out]; rfl
  have hn1 : ((T.size : Int) == 1) = false := beq_eq_false_iff_ne.2 (by omega)
  have hs1 : ((S.size : Int) == 1) = false := beq_eq_false_iff_ne.2 (by omega)
  have h8z : decide ((8 : Int) < (S.size : Int)) = false := decide_eq_false (by omega)
  have hll : Hid (S.data.toList.length = S.size) := hid (by simp)
  go_enter Tryd.func16, Tryd.ntmps16
  go_wp2_with (first
    | (go_at_call 24; refine (Tryd.strings_shouldUseASCIISet _ _).mono ?_; rintro e w' ⟨rfl, hw⟩; rw [hw, h8z]))
  clear hemp hn1 hs1 h8z htz
  go_loopg [13] S.size (fun g s8 wx => g ≤ S.size ∧ s8 = .int .i64 (g : Int) ∧ Hid (Below w.heap.size w wx) ∧ Hid (∀ j, g ≤ j → j < S.size → ¬ Sgn (S.data.toList.getD j 0)))
  case atStart =>
    exact ⟨Nat.le_refl _, rfl, hid (Below.refl _ _), hid fun j h1 h2 => by omega⟩
  case round =>
    obtain ⟨hg, rfl, HB, HN⟩ := hrel
    cases gk with
    | zero =>
      go_wp2
      go_ret
      exact ⟨⟨_, rfl, .inl ⟨fun j hj => HN.out j (by omega) (by simpa using hj), rfl⟩⟩, HB.out⟩
    | succ g =>
      obtain ⟨n1, n2, n3, n4⟩ := decLast_sgn S.data.toList (g + 1) (by omega) (by rw [hll.out]; exact hg)
      have hdec := fun w' hb => dec_at S (g + 1) hg (by omega) w' (ht.out w' hb)
      obtain ⟨r, hr⟩ : ∃ r, (decodeLastL (S.data.toList.take (g + 1))).1 = r := ⟨_, rfl⟩
      obtain ⟨n, hn⟩ : ∃ n, (decodeLastL (S.data.toList.take (g + 1))).2 = n := ⟨_, rfl⟩
      rw [hr] at n3 n4
      rw [hn] at n1 n2 n4
      rw [hr, hn] at hdec
      clear hr hn
      obtain ⟨i, hi⟩ : ∃ i, g + 1 = i := ⟨_, rfl⟩
      rw [hi] at hdec n2 n4 HN hg ⊢
      have hpos : decide ((0 : Int) < (i : Int)) = true := decide_eq_true (by omega)
      have HD := hid hdec; clear hdec
      have HI := hid hi; clear hi
      rcases n4 with ⟨a, b, c⟩ | ⟨a, b⟩
      · subst b
        have HA := hid a; have HC := hid c; clear a c
        go_wp2_with fail
        refine (HD.out _ HB.out).mono ?_
        rintro e w1 ⟨rfl, hb⟩
        have HB1 := hid (HB.out.trans (hb.mono HB.out.size)); clear hb
        go_wp2_with fail
        refine (idx_yes T hT _ HA.out _).mono ?_
        rintro e w2 ⟨⟨q, hq, rfl⟩, hb⟩
        have hqd : decide (0 ≤ q) = true := decide_eq_true hq
        have HB2 := hid (HB1.out.trans (hb.mono HB1.out.size)); clear hb
        go_wp2_with fail
        go_ret
        refine ⟨⟨_, rfl, .inr ⟨i - 1, ⟨by rw [hll.out]; omega, HC.out, fun j h1 h2 => HN.out j (by omega) (by rw [hll.out] at h2; exact h2)⟩, ?_⟩⟩, HB2.out⟩
        omega
      · have HA := hid a; have HC := hid b; clear a b
        go_wp2_with fail
        refine (HD.out _ HB.out).mono ?_
        rintro e w1 ⟨rfl, hb⟩
        have HB1 := hid (HB.out.trans (hb.mono HB.out.size)); clear hb
        go_wp2_with fail
        refine (idx_no T hT _ (by omega) (by omega) HA.out _).mono ?_
        rintro e w2 ⟨rfl, hb⟩
        have HB2 := hid (HB1.out.trans (hb.mono HB1.out.size)); clear hb
        go_wp2_with fail
        go_roundg (i - n)
        case measure => have := HI.out; omega
        case rel =>
          refine ⟨by omega, ?_, HB2, hid fun j h1 h2 => ?_⟩
          · first | rfl | (congr 1; omega) | (rw [IntKind.wrap_i64]; congr 1; omega)
          · by_cases e : i ≤ j
            · exact HN.out j e h2
            · exact HC.out j h1 (by omega)

end Go.Proofs.YtgkhmhbmdmjacaaDoor
