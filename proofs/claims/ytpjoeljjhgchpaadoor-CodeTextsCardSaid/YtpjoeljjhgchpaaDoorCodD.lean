/- Layer 4, code: the document's answers on words: Names, Text, Same. -/
import Derived.Test.YtpjoeljjhgchpaaDoorCodP
import Derived.Test.YtpjoeljjhgchpaaDoorDgs
namespace Go.Proofs.YtpjoeljjhgchpaaDoor
open Go.RowKit Go.Lib
set_option linter.unusedVariables false

theorem SlV.here {w w' : World} {v : Value} {l : List (Int × Int)} (h : SlV w w.heap.size v l) (hb : Hid (Below w.heap.size w w')) : SlV w' w'.heap.size v l := (h.below hb.out).mono hb.out.size

theorem names_at (o : Int) (h0 : 0 ≤ o) (h1 : o ≤ 17) (N : ByteArray) (hN : Hid (nameS o = N)) (w : World) :
    Calls Tryd.prog 31 #[] w fun e w' => ∃ g, e = .returned (.slice (some ⟨g, 0, none⟩) 18 18) ∧ w'.cell? ⟨g, o.toNat, none⟩ = some (.string N) ∧ Below w.heap.size w w' := by
  have HC : Hid ((w.alloc (.cells nameCells 9)).cell? ⟨w.heap.size, o.toNat, none⟩ = some (.string N)) := hid (by
    have := nameCells_get o.toNat (by omega)
    rw [show ((o.toNat : Nat) : Int) = o by omega, hN.out] at this
    rw [cell_of_row _ _ _ _ _ _ (heap_alloc_new w _)]
    exact this)
  have hl := nameCells_lit
  have HL := hid hl; clear hl hN
  go_enter Tryd.func31, Tryd.ntmps31
  go_wp2_with fail
  go_ret
  refine ⟨w.heap.size, rfl, ?_, (Below.refl _ _).alloc (Nat.le_refl _) _⟩
  have := HC.out
  rw [HL.out] at this
  exact this

theorem neq_ins (a b : Int) (w : World) : (binOp .neq 27 (val a b) (val a b)).run Tryd.prog w = .ok (.bool false) w := by
  rw [run_neq_struct, run_equalIn_struct w 9999 27 _ _ (by kernel_rfl) (by kernel_rfl)]
  have hf : (Tryd.prog.fieldsOf 27).toList = [{ name := "Op", type := 3, offset := 0, embedded := false, tag := "", pkgPath := "", byteOffset := 0 }, { name := "A", type := 3, offset := 1, embedded := false, tag := "", pkgPath := "", byteOffset := 8 }] := by kernel_rfl
  rw [hf]
  simp [Op.eqFields, part, isAgg, go_sem, Tryd.underlying3]

set_option maxHeartbeats 1000000 in
theorem same_any (v v' : Value) (l : List (Int × Int)) (hl : l.length ≤ 1000000000000) (w : World) (hv : SlV w w.heap.size v l) (hv' : SlV w w.heap.size v' l) :
    Calls Tryd.prog 14 #[v, v'] w fun e w' => e = .returned (.bool true) ∧ Below w.heap.size w w' := by
  obtain ⟨A, c, rfl, hc, hA⟩ := hv
  obtain ⟨A', c', rfl, hc', hA'⟩ := hv'
  have HA := hid hA; have HA' := hid hA'; clear hA hA'
  go_enter Tryd.func14, Tryd.ntmps14
  go_wp2_with fail
  go_loopw [5] (fun i wr => ∃ k : Nat, k ≤ l.length ∧ i = .int .i64 k ∧ Hid (Below w.heap.size w wr)) (fun i _ => l.length - (RowKit.intOf i).toNat)
  case atStart => exact ⟨0, Nat.zero_le _, rfl, hid (Below.refl _ _)⟩
  case round =>
    obtain ⟨k, hk, rfl, hbel⟩ := hrel
    by_cases hlt : k < l.length
    · obtain ⟨b1, o1, rfl, hbB, hcell⟩ := HA.out (by omega)
      obtain ⟨ca, cb⟩ := hcell k hlt
      obtain ⟨b2, o2, rfl, hbB2, hcell2⟩ := HA'.out (by omega)
      obtain ⟨da, db⟩ := hcell2 k hlt
      obtain ⟨o, a, hoa⟩ := pair_of (p := l.getD k (0, 0))
      rw [hoa] at ca cb da db
      have ca' := (hbel.out.cell (p := ⟨b1, o1 + k * 2, none⟩) hbB).trans ca
      have cb' := (hbel.out.cell (p := ⟨b1, o1 + k * 2 + 1, none⟩) hbB).trans cb
      have da' := (hbel.out.cell (p := ⟨b2, o2 + k * 2, none⟩) hbB2).trans da
      have db' := (hbel.out.cell (p := ⟨b2, o2 + k * 2 + 1, none⟩) hbB2).trans db
      clear ca cb da db hcell hcell2 hoa
      have hk0 : (0 : Int) ≤ (k : Int) := by omega
      have hk1 : (k : Int) < (l.length : Int) := by omega
      have hns := neq_ins o a
      go_wp2_with fail
      go_quiet (fail)
      go_wp2_with fail
      go_roundw
      case rel => exact ⟨k + 1, by omega, by go_num, hid (below_drewN' hbel.out _)⟩
      case measure => simp [RowKit.intOf]; omega
    · go_wp2_with fail
      go_ret
      exact ⟨rfl, hbel.out⟩

theorem textL_snoc {l : List (Int × Int)} {k : Nat} (h : k < l.length) : textL (l.take (k + 1)) = textL (l.take k) ++ ((if k = 0 then [] else [59, 32]) ++ wordI (l.getD k (0, 0))) := by
  have e1 : l.take (k + 1) = l.take k ++ [l.getD k (0, 0)] := by
    rw [List.take_succ_eq_append_getElem h, List.getD_eq_getElem?_getD, List.getElem?_eq_getElem h]; rfl
  have key : ∀ (q : List (Int × Int)) (x : Int × Int), textL (q ++ [x]) = textL q ++ ((if q.length = 0 then [] else [59, 32]) ++ wordI x) := by
    intro q x
    induction q with
    | nil => simp [textL_nil, textL_one]
    | cons y q ih =>
      cases q with
      | nil => rw [List.cons_append, List.nil_append, textL_cons _ _ (by simp), textL_one, textL_one]; simp
      | cons z q =>
        rw [List.cons_append, textL_cons _ _ (by simp), ih, textL_cons y (z :: q) (by simp)]
        simp
  rw [e1, key, List.length_take, Nat.min_eq_left (by omega)]

theorem num_ways (o : Int) : (numdI o = true ∧ ((o == 1) = true ∨ ((o == 1) = false ∧ (o == 2) = true) ∨ ((o == 1) = false ∧ (o == 2) = false ∧ (o == 4) = true) ∨ ((o == 1) = false ∧ (o == 2) = false ∧ (o == 4) = false ∧ (o == 5) = true) ∨
      ((o == 1) = false ∧ (o == 2) = false ∧ (o == 4) = false ∧ (o == 5) = false ∧ (o == 15) = true) ∨ ((o == 1) = false ∧ (o == 2) = false ∧ (o == 4) = false ∧ (o == 5) = false ∧ (o == 15) = false ∧ (o == 16) = true))) ∨
    (numdI o = false ∧ (o == 1) = false ∧ (o == 2) = false ∧ (o == 4) = false ∧ (o == 5) = false ∧ (o == 15) = false ∧ (o == 16) = false) := by
  cases hn : numdI o with
  | true =>
    rw [numdI_iff] at hn
    left
    refine ⟨rfl, ?_⟩
    rcases hn with rfl | rfl | rfl | rfl | rfl | rfl <;> simp
  | false =>
    have hh : ¬ (numdI o = true) := by rw [hn]; simp
    rw [numdI_iff] at hh
    right
    refine ⟨rfl, ?_⟩
    simp
    omega

theorem held_two {V w' : World} {b o : Nat} {m n : Value} (h0 : V.cell? ⟨b, o, none⟩ = some m) (h1 : V.cell? ⟨b, o + 1, none⟩ = some n) (hg : b < V.heap.size) (hb : Hid (Below V.heap.size V w')) :
    w'.cell? ⟨b, o, none⟩ = some m ∧ w'.cell? ⟨b, o + 1, none⟩ = some n ∧ Hid (Below V.heap.size V w') :=
  ⟨((bcell hb.out).1 _ _ hg).trans h0, ((bcell hb.out).1 _ _ hg).trans h1, hb⟩

theorem size_word (P N D : ByteArray) : (P ++ N ++ ⟨#[32]⟩ ++ D).size = P.size + N.size + 1 + D.size := by
  rw [ByteArray.size_append, ByteArray.size_append, ByteArray.size_append]; rfl

theorem list_word (P N D : ByteArray) : (P ++ N ++ ⟨#[32]⟩ ++ D).data.toList = P.data.toList ++ (N.data.toList ++ 32 :: D.data.toList) := by
  rw [bytes_append, bytes_append, bytes_append]; simp

set_option maxRecDepth 100000 in
set_option maxHeartbeats 8000000 in
theorem rtext_any (v : Value) (l : List (Int × Int)) (T : ByteArray) (hT : Hid ((⟨(textL l).toArray⟩ : ByteArray) = T)) (hf : Hid (fitsL l = true)) (w : World) (hv : SlV w w.heap.size v l) :
    Calls Tryd.prog 13 #[v] w fun e w' => e = .returned (.string T) ∧ Below w.heap.size w w' := by
  obtain ⟨h24, hall⟩ := (fitsL_iff l).1 hf.out
  have HAL := hid hall; clear hall
  obtain ⟨A, c, rfl, hc, hA⟩ := hv
  have HA := hid hA; clear hA
  go_enter Tryd.func13, Tryd.ntmps13
  go_wp2_with fail
  go_loopw [3, 4] (fun s i wr => ∃ (k : Nat) (P : ByteArray), k ≤ l.length ∧ i = .int .i64 k ∧ s = .string P ∧ P.size ≤ 29 * k ∧ Hid (P.data.toList = textL (l.take k)) ∧ Hid (Below w.heap.size w wr)) (fun _ i _ => l.length - (RowKit.intOf i).toNat)
  case atStart => exact ⟨0, ⟨#[]⟩, Nat.zero_le _, rfl, rfl, by decide, hid rfl, hid (Below.refl _ _)⟩
  case round =>
    obtain ⟨k, P, hk, rfl, rfl, hP, HP, hbel⟩ := hrel
    by_cases hlt : k < l.length
    · obtain ⟨b1, o1, rfl, hbB, hcell⟩ := HA.out (by omega)
      obtain ⟨ca, cb⟩ := hcell k hlt
      obtain ⟨o, a, hoa⟩ := pair_of (p := l.getD k (0, 0))
      rw [hoa] at ca cb
      have HOA := hid hoa; clear hoa hcell
      have ca' := (hbel.out.cell (p := ⟨b1, o1 + k * 2, none⟩) hbB).trans ca
      have cb' := (hbel.out.cell (p := ⟨b1, o1 + k * 2 + 1, none⟩) hbB).trans cb
      have hbr := Nat.lt_of_lt_of_le hbB hbel.out.size
      clear ca cb
      have HR : Hid (rightI (o, a) = true) := hid (by
        have := List.all_eq_true.1 HAL.out (l[k]'hlt) (List.getElem_mem hlt)
        have e := HOA.out
        rw [List.getD_eq_getElem?_getD, List.getElem?_eq_getElem hlt] at e
        rw [← e]; exact this)
      obtain ⟨h0, h1, _, _⟩ := rightI_bounds HR.out
      change 0 ≤ o at h0
      change o ≤ 17 at h1
      have h18 : o < 18 := by omega
      have hk0 : (0 : Int) ≤ (k : Int) := by omega
      have hk1 : (k : Int) < (l.length : Int) := by omega
      obtain ⟨N, hN⟩ : ∃ N, nameS o = N := ⟨_, rfl⟩
      have hNs : N.size ≤ 5 := by rw [← hN]; exact nameS_size h0 h1
      have HNl : Hid (N.data.toList = nameL o) := hid (by rw [← hN, nameS_list])
      have HN := hid hN; clear hN
      obtain ⟨D, hD⟩ : ∃ D, digS a = D := ⟨_, rfl⟩
      have hDs : D.size ≤ 21 := by rw [← hD]; exact digS_size a (rightI_small HR.out)
      have HDl : Hid (D.data.toList = itoa a) := hid (by rw [← hD]; unfold digS; simp)
      have HD := hid hD; clear hD
      have hPs : P.size ≤ 700 := by omega
      have hW : wordI (o, a) = nameL o ++ if numdI o then 32 :: itoa a else [] := rfl
      have HW := hid hW; clear hW
      have HSn := hid (textL_snoc hlt)
      obtain ⟨PS, hPS, HPS, hPSz⟩ : ∃ PS : ByteArray, (k = 0 → PS = P) ∧ (k ≠ 0 → P ++ ⟨#[59, 32]⟩ = PS) ∧ PS.size ≤ P.size + 2 := by
        by_cases hkz : k = 0
        · exact ⟨P, fun _ => rfl, fun h => absurd hkz h, by omega⟩
        · exact ⟨P ++ ⟨#[59, 32]⟩, fun h => absurd h hkz, fun _ => rfl, by rw [ByteArray.size_append]; exact Nat.le_refl _⟩
      have HQ : Hid (textL (l.take (k + 1)) = PS.data.toList ++ wordI (o, a)) := hid (by
        rw [HSn.out, HOA.out, ← HP.out]
        by_cases hkz : k = 0
        · rw [if_pos hkz, hPS hkz]; simp
        · rw [if_neg hkz, ← HPS hkz, bytes_append]; simp)
      have m1 : ¬ 9223372036854775807 < PS.size + N.size := by omega
      have m2 : ¬ 9223372036854775807 < PS.size + N.size + 1 := by omega
      have m3 : ¬ 9223372036854775807 < PS.size + N.size + 1 + D.size := by omega
      have hsz : PS.size + N.size + 1 + D.size ≤ 29 * (k + 1) := by omega
      have hps : (¬ 0 < k ∧ PS = P) ∨ (0 < k ∧ P ++ ⟨#[59, 32]⟩ = PS) := by
        by_cases hkz : k = 0
        · exact .inl ⟨by omega, hPS hkz⟩
        · exact .inr ⟨by omega, HPS hkz⟩
      clear hPS HPS
      rcases hps with ⟨d0, hp⟩ | ⟨d0, hp⟩
      · obtain rfl := hp
        go_wp2_with fail
        go_region_law (first
          | (go_simp; go_at_call 31; refine (names_at o h0 h1 N HN _).mono ?_; rintro e w' ⟨g, rfl, hcN, hb⟩; obtain ⟨ca2, cb2, HB2⟩ := held_two ca' cb' hbr (hid (⟨hb.os, hb.tape, hb.output, hb.size, hb.block⟩))))
        all_goals
          rcases num_ways o with ⟨hn, hw⟩ | ⟨hn, q1, q2, q4, q5, q15, q16⟩
          · have HNm := hid hn; clear hn
            rcases hw with q1 | ⟨q1, q2⟩ | ⟨q1, q2, q4⟩ | ⟨q1, q2, q4, q5⟩ | ⟨q1, q2, q4, q5, q15⟩ | ⟨q1, q2, q4, q5, q15, q16⟩
            all_goals
              go_wp2_with fail
              refine (digits_is a (rightI_small HR.out) D HD _).mono ?_
              rintro e w2 ⟨rfl, rfl⟩
              go_wp2_with fail
              go_roundw
              case rel => exact ⟨k + 1, _, by omega, by go_num, rfl, by rw [size_word]; exact hsz, hid (by rw [HQ.out, HW.out, HNm.out, if_pos rfl, list_word, HNl.out, HDl.out]), hid (hbel.out.trans (HB2.out.mono hbel.out.size))⟩
              case measure => simp [RowKit.intOf]; omega
          · have HNm := hid hn; clear hn
            go_wp2_with fail
            go_roundw
            case rel => exact ⟨k + 1, _, by omega, by go_num, rfl, by rw [ByteArray.size_append]; omega, hid (by rw [HQ.out, HW.out, HNm.out, bytes_append, HNl.out]; simp), hid (hbel.out.trans (HB2.out.mono hbel.out.size))⟩
            case measure => simp [RowKit.intOf]; omega
      · go_wp2_with fail
        have HPP := hid hp; clear hp
        go_region_law (first
          | (go_simp; go_at_call 31; refine (names_at o h0 h1 N HN _).mono ?_; rintro e w' ⟨g, rfl, hcN, hb⟩; obtain ⟨ca2, cb2, HB2⟩ := held_two ca' cb' hbr (hid (⟨hb.os, hb.tape, hb.output, hb.size, hb.block⟩))))
        all_goals
          rcases num_ways o with ⟨hn, hw⟩ | ⟨hn, q1, q2, q4, q5, q15, q16⟩
          · have HNm := hid hn; clear hn
            rcases hw with q1 | ⟨q1, q2⟩ | ⟨q1, q2, q4⟩ | ⟨q1, q2, q4, q5⟩ | ⟨q1, q2, q4, q5, q15⟩ | ⟨q1, q2, q4, q5, q15, q16⟩
            all_goals
              go_wp2_with fail
              refine (digits_is a (rightI_small HR.out) D HD _).mono ?_
              rintro e w2 ⟨rfl, rfl⟩
              go_wp2_with fail
              go_roundw
              case rel => exact ⟨k + 1, _, by omega, by go_num, rfl, by rw [size_word]; exact hsz, hid (by rw [HQ.out, HW.out, HNm.out, if_pos rfl, list_word, HNl.out, HDl.out]), hid (hbel.out.trans (HB2.out.mono hbel.out.size))⟩
              case measure => simp [RowKit.intOf]; omega
          · have HNm := hid hn; clear hn
            go_wp2_with fail
            go_roundw
            case rel => exact ⟨k + 1, _, by omega, by go_num, rfl, by rw [ByteArray.size_append]; omega, hid (by rw [HQ.out, HW.out, HNm.out, bytes_append, HNl.out]; simp), hid (hbel.out.trans (HB2.out.mono hbel.out.size))⟩
            case measure => simp [RowKit.intOf]; omega
    · have HE : Hid (l.take k = l) := hid (List.take_of_length_le (by omega))
      go_wp2_with fail
      go_ret
      exact ⟨by rw [← hT.out, ← HE.out, ← HP.out, mk_data]; rfl, hbel.out⟩

end Go.Proofs.YtpjoeljjhgchpaaDoor
