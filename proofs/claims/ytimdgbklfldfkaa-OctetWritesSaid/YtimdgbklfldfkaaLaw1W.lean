/- Layer 1, octet: OctetWrites' walk. -/
import Derived.Test.YtimdgbklfldfkaaLaw1R
namespace Go.Proofs.Ytimdgbklfldfkaa
open Go.RowKit

def okTo (zs : List Int) (k : Nat) : Bool := decide (∀ n ∈ zs.take k, Num32 n)

theorem okTo_step (zs : List Int) (k : Nat) (h : k < zs.length) : okTo zs (k + 1) = (okTo zs k && decide (Num32 (zs.getD k 0))) := by
  have e : zs.getD k 0 = zs[k] := by simp [h]
  unfold okTo
  rw [List.take_succ_eq_append_getElem h, e, Bool.eq_iff_iff]
  simp only [decide_eq_true_eq, Bool.and_eq_true]
  constructor
  · intro h; exact ⟨fun n hn => h n (List.mem_append_left _ hn), h _ (List.mem_append_right _ (List.mem_singleton.2 rfl))⟩
  · rintro ⟨h1, h2⟩ n hn
    rcases List.mem_append.1 hn with hn | hn
    · exact h1 n hn
    · rw [List.mem_singleton] at hn; rw [hn]; exact h2

/-- Behind k rounds: what is wanted, if all were numbers. -/
def WantIs (zs : List Int) (k : Nat) (W : ByteArray) : Prop := W.size = 4 * k ∧ (okTo zs k = true → W = ⟨(encs (zs.take k)).toArray⟩)

theorem WantIs.step {zs : List Int} {k : Nat} {W L : ByteArray} (h : WantIs zs k W) (hk : k < zs.length) (hL : L.size = 4) (hn : Num32 (zs.getD k 0) → L = ⟨(enc32 (zs.getD k 0)).toArray⟩) : WantIs zs (k + 1) (W ++ L) := by
  refine ⟨by rw [ByteArray.size_append, h.1, hL]; omega, fun e => ?_⟩
  rw [okTo_step zs k hk, Bool.and_eq_true, decide_eq_true_eq] at e
  rw [h.2 e.1, hn e.2, mk_append, encs_snoc zs k hk]

def PutPostS (n : Int) (w : World) (e : Ending) (w' : World) : Prop := ∃ L : ByteArray, e = .returned (.string L) ∧ L.size = 4 ∧ (Num32 n → L = ⟨(enc32 n).toArray⟩) ∧ Below w.heap.size w w'

theorem put_S (n : Int) (w : World) (hw : (Lit.int .i64 n).wf = true) : Calls Try.prog 9 #[.int .i64 n] w (PutPostS n w) := by
  refine (put_any n w hw).mono ?_
  rintro e w' ⟨l, rfl, h1, h2, h3⟩
  exact ⟨_, rfl, by rw [size_mk]; exact h1, fun h => by rw [h2 h], h3⟩

theorem writes_long (va : Value) (za : List Int) (S T : ByteArray) (w : World) (ha : SlIn w .i64 va za) (hS : S.size ≤ maxLen) (hT : T.size ≤ maxLen)
    (hl : 100 < za.length ∨ (za.length ≤ 100 ∧ 3000 < S.size) ∨ (za.length ≤ 100 ∧ S.size ≤ 3000 ∧ 300 < T.size)) :
    Calls Try.prog 3 #[va, .string S, .string T] w fun e w' => e = .returned (.bool true) ∧ Below w.heap.size w w' := by
  have h1 := ha.most
  unfold maxLen at h1 hS hT
  obtain ⟨⟨A, c, rfl, hc, hA⟩, _, _⟩ := ha
  clear hA
  rcases hl with hl | ⟨hl, hl2⟩ | ⟨hl, hl2, hl3⟩
  all_goals
    go_enter Try.func3, Try.ntmps3
    go_wp2_with fail
    refine (awake1 _).mono ?_
    rintro e w1 ⟨rfl, hb1⟩
    have HB := hid hb1; clear hb1
    go_wp2
    go_ret
    exact ⟨rfl, HB.out⟩

/-- What stands behind the numbers. -/
def tailOf (S T : ByteArray) : List UInt8 := enc32 S.size ++ (S.data.toList ++ T.data.toList)

theorem drop_cons (za : List Int) (k : Nat) (h : k < za.length) : za.drop k = za.getD k 0 :: za.drop (k + 1) := by
  rw [List.drop_eq_getElem_cons h]; simp [h]

theorem rest_head (za : List Int) (t : List UInt8) (k : Nat) (z : Int) (h : k < za.length) (hz : z = za.getD k 0) (hn : Num32 z) : head4 (encs (za.drop k) ++ t) = z ∧ 4 ≤ (encs (za.drop k) ++ t).length := by
  rw [drop_cons za k h, encs_cons, List.append_assoc, ← hz]
  exact ⟨head_enc z hn _, by simp [enc32_len]⟩

theorem rest_drop (za : List Int) (t : List UInt8) (k : Nat) (h : k < za.length) : (encs (za.drop k) ++ t).drop 4 = encs (za.drop (k + 1)) ++ t := by
  rw [drop_cons za k h, encs_cons, List.append_assoc]
  rfl

theorem rest_len (za : List Int) (S T : ByteArray) (k : Nat) (hl : za.length ≤ 100) (hS : S.size ≤ 3000) (hT : T.size ≤ 300) : (encs (za.drop k) ++ tailOf S T).length ≤ 1000000000000 := by
  rw [List.length_append, encs_len, List.length_drop, tailOf, List.length_append, List.length_append, enc32_len, ← size_list, ← size_list]
  omega

theorem num_l (b : Nat) (l : List UInt8) (z : Int) (w : World) (hz : head4 l = z) (h4 : 4 ≤ l.length) (h1 : RdAt w b 0 l) (hl : l.length ≤ 1000000000000) :
    Calls Try.prog 15 #[.pointer (some ⟨b, 0, none⟩)] w fun e w' => e = .returned (.tuple #[.int .i64 z, .int .i64 0]) ∧ RdAt w' b 0 (l.drop 4) ∧ w.grownBy w' (some b) := by
  have hb := dec4_bd (l.getD 0 0) (l.getD 1 0) (l.getD 2 0) (l.getD 3 0)
  refine rnum_of b 0 w z 0 (fun w' => RdAt w' b 0 (l.drop 4) ∧ w.grownBy w' (some b)) ?_
  rw [← hz]
  refine (within_ok b 0 l _ _ w h4 hb.1 hb.2 h1 hl).mono ?_
  rintro e w' ⟨rfl, n, rfl⟩
  exact ⟨rfl, (h1.drewN n).set _, turned_set (p := ⟨b, 0, none⟩) (turned_drewN (turned_refl _ _) n) (.inl rfl) _⟩

theorem text_tail (b : Nat) (S T : ByteArray) (w : World) (hS : S.size ≤ 3000) (hT : T.size ≤ 300) (h1 : RdAt w b 0 (tailOf S T)) :
    Calls Try.prog 16 #[.pointer (some ⟨b, 0, none⟩), .int .i64 S.size] w fun e w' => e = .returned (.tuple #[.string S, .int .i64 0]) ∧ RdAt w' b 0 T.data.toList ∧ w.grownBy w' (some b) := by
  have hl : (tailOf S T).length = 4 + (S.size + T.size) := by rw [tailOf, List.length_append, List.length_append, enc32_len, ← size_list, ← size_list]
  have hd : (tailOf S T).drop 4 = S.data.toList ++ T.data.toList := rfl
  have hd2 : (tailOf S T).drop (4 + S.size) = T.data.toList := by rw [← List.drop_drop, hd, size_list, List.drop_left']; rfl
  have e : S = ⟨(((tailOf S T).drop 4).take S.size).toArray⟩ := by rw [hd, size_list, List.take_left' rfl, mk_data]
  have hc := text_ok b 0 (tailOf S T) S.size S.size w (by omega) (head_enc _ ⟨by omega, by omega⟩ _) (Int.le_refl _) (by omega) h1 (by omega)
  rw [← e, hd2] at hc
  refine hc.mono ?_
  rintro e w' ⟨rfl, w1, rfl, hb⟩
  exact ⟨rfl, (h1.below hb).set _, turned_set (p := ⟨b, 0, none⟩) (turned_below hb _) (.inl rfl) _⟩

set_option maxRecDepth 100000 in
set_option maxHeartbeats 8000000 in
theorem writes_short (va : Value) (za : List Int) (S T : ByteArray) (w : World) (ha : SlIn w .i64 va za) (hl : za.length ≤ 100) (hS : S.size ≤ 3000) (hT : T.size ≤ 300) :
    Calls Try.prog 3 #[va, .string S, .string T] w fun e w' => e = .returned (.bool true) ∧ Below w.heap.size w w' := by
  have hra := ha.row; have hfi := ha.fits
  have HRA := hid hra; have HF := hid hfi; clear hra hfi
  obtain ⟨⟨A, c, rfl, hc, hA⟩, _, _⟩ := ha
  have HA := hid hA; clear hA
  go_enter Try.func3, Try.ntmps3
  go_wp2_with fail
  refine (awake1 _).mono ?_
  rintro e w1 ⟨rfl, hb1⟩
  have HB := hid hb1; clear hb1
  have HW := hid (WrAt.new w1 26 (by decide))
  have HB2 := hid (HB.out.alloc HB.out.size (.cells #[.pointer none, .int .i64 0] 26))
  go_wp2_with fail
  go_loopw [8, 9, 37] (fun v g i wr => ∃ (k : Nat) (W : ByteArray), k ≤ za.length ∧ i = .int .i64 k ∧ v = .string W ∧ g = .bool (okTo za k) ∧ WantIs za k W ∧ WrAt wr w1.heap.size 0 [] ∧ Below w.heap.size w wr) (fun _ _ i _ => za.length - (intOf i).toNat)
  case atStart => exact ⟨0, ByteArray.empty, Nat.zero_le _, rfl, rfl, by simp [okTo], ⟨rfl, fun _ => rfl⟩, HW.out, HB2.out⟩
  case round =>
    obtain ⟨k, W, hk, rfl, rfl, rfl, hwant, hwr, hbr⟩ := hrel
    have hws : W.size ≤ 400 := by rw [hwant.1]; omega
    have HWANT := hid hwant; have HWR := hid hwr; have HBR := hid hbr; clear hwant hwr hbr
    by_cases hlt : k < za.length
    · obtain ⟨b1, o1, rfl, hbB, hcell⟩ := HA.out (by omega)
      have hc1 := (HBR.out.cell (p := ⟨b1, o1 + k, none⟩) hbB).trans (hcell k hlt)
      clear hcell
      have hst := okTo_step za k hlt
      have hzf : (Lit.int .i64 (za.getD k 0)).wf = true := HF.out _ (by rw [List.getD_eq_getElem?_getD, List.getElem?_eq_getElem hlt]; simp)
      have hstep := fun L => WantIs.step (L := L) HWANT.out hlt
      obtain ⟨z, hz⟩ : ∃ z, z = za.getD k 0 := ⟨_, rfl⟩
      rw [← hz] at hc1 hst hzf
      have HSTEP : Hid (∀ L : ByteArray, L.size = 4 → (Num32 z → L = ⟨(enc32 z).toArray⟩) → WantIs za (k + 1) (W ++ L)) := hid (by rw [hz]; exact hstep)
      have HZF := hid hzf; clear hz hstep hzf
      cases hok : okTo za k with
      | false =>
        rw [hok, Bool.false_and] at hst
        have HST := hid hst; clear hok hst
        go_wp2_with fail
        refine (put_S z _ HZF.out).mono ?_
        rintro e w2 ⟨L, rfl, hL4, hLn, hb2⟩
        have HLN := hid hLn; have HB3 := hid hb2; clear hLn hb2
        go_wp2_with fail
        go_roundw
        case rel => exact ⟨k + 1, W ++ L, by omega, by go_num, rfl, by rw [HST.out], HSTEP.out L hL4 HLN.out, HWR.out.below HB3.out, HBR.out.trans (HB3.out.mono HBR.out.size)⟩
        case measure => simp [intOf]; omega
      | true =>
        rw [hok, Bool.true_and] at hst
        have HST := hid hst; clear hok hst
        by_cases hn : Num32 z
        · have HN := hid hn; clear hn
          go_wp2_with fail
          refine (is_yes z _ HN.out).mono ?_
          rintro e w' ⟨rfl, rfl⟩
          go_wp2_with fail
          refine (put_S z _ HZF.out).mono ?_
          rintro e w2 ⟨L, rfl, hL4, hLn, hb2⟩
          have HLN := hid hLn; have HB3 := hid hb2; clear hLn hb2
          go_wp2_with fail
          go_roundw
          case rel => exact ⟨k + 1, W ++ L, by omega, by go_num, rfl, by rw [HST.out]; simp [HN.out], HSTEP.out L hL4 HLN.out, HWR.out.below HB3.out, HBR.out.trans (HB3.out.mono HBR.out.size)⟩
          case measure => simp [intOf]; omega
        · have HN := hid hn; clear hn
          go_wp2_with fail
          refine (is_no z _ HN.out).mono ?_
          rintro e w' ⟨rfl, rfl⟩
          go_wp2_with fail
          refine (put_S z _ HZF.out).mono ?_
          rintro e w2 ⟨L, rfl, hL4, hLn, hb2⟩
          have HLN := hid hLn; have HB3 := hid hb2; clear hLn hb2
          go_wp2_with fail
          go_roundw
          case rel => exact ⟨k + 1, W ++ L, by omega, by go_num, rfl, by rw [HST.out]; simp [HN.out], HSTEP.out L hL4 HLN.out, HWR.out.below HB3.out, HBR.out.trans (HB3.out.mono HBR.out.size)⟩
          case measure => simp [intOf]; omega
    · obtain rfl : k = za.length := by omega
      by_cases hall : ∀ n ∈ za, Num32 n
      · have hok : okTo za za.length = true := by simp [okTo]; exact hall
        have hW := HWANT.out.2 hok
        rw [List.take_of_length_le (Nat.le_refl _)] at hW
        obtain ⟨TX, hTX⟩ : ∃ TX : ByteArray, TX = ⟨(enc32 S.size ++ S.data.toList).toArray⟩ := ⟨_, rfl⟩
        obtain ⟨O, hO⟩ : ∃ O : ByteArray, W ++ TX = O := ⟨_, rfl⟩
        obtain ⟨Q, hQ⟩ : ∃ Q : ByteArray, O ++ T = Q := ⟨_, rfl⟩
        have hOl : O = ⟨(encs za ++ (enc32 S.size ++ S.data.toList)).toArray⟩ := by rw [← hO, hW, hTX, mk_append]
        have hQl : Q.data.toList = encs za ++ (enc32 S.size ++ (S.data.toList ++ T.data.toList)) := by rw [← hQ, hOl]; simp [List.append_assoc]
        have hOs : O.size ≤ 3404 := by rw [hOl, size_mk, List.length_append, encs_len, List.length_append, enc32_len, ← size_list]; omega
        have HOK := hid hok; have HALL := hid hall; have HTX := hid hTX; have HO := hid hOl; have HQL := hid hQl
        have htxs : TX.size ≤ 3004 := by rw [hTX, size_mk, List.length_append, enc32_len, ← size_list]; omega
        clear hok hall hTX hOl hQl hW
        rw [HOK.out]
        go_wp2_with fail
        refine (wnum_ok _ _ _ _ za _ HWR.out ((HRA.out.below HBR.out).mono HBR.out.size) HALL.out (by omega) (by simp)).mono ?_
        rintro e w2 ⟨rfl, hw2, hg2⟩
        have HW2 := hid hw2; have HB3 := hid (HBR.out.trans (turned_below_of hg2 HBR.out.size HB.out.size)); clear hw2 hg2
        go_wp2_with fail
        have hwt := wtext_any w1.heap.size 0 _ S.data.toList w2 HW2.out (by rw [← size_list]; omega) (by simp only [List.nil_append, encs_len]; omega)
        rw [mk_data, List.nil_append, ← size_list] at hwt
        refine hwt.mono ?_
        rintro e w3 ⟨rfl, hw3, hg3⟩
        have HW3 := hid hw3; have HB4 := hid (HB3.out.trans (turned_below_of hg3 HB3.out.size HB.out.size)); clear hw3 hg3 hwt
        have holl : (encs za ++ (enc32 (S.size : Int) ++ S.data.toList)).length ≤ 100000000000 := by rw [List.length_append, encs_len, List.length_append, enc32_len, ← size_list]; omega
        have HOLL := hid holl; clear holl
        go_wp2_with fail
        refine (out_S _ _ _ O HO.out _ HW3.out HOLL.out).mono ?_
        rintro e w4 ⟨rfl, hb4⟩
        have HW4 := hid (HW3.out.below hb4); have HB5 := hid (HB4.out.trans (hb4.mono HB4.out.size)); clear hb4
        go_wp2_with fail
        refine (reftext_any S TX _ (by omega) HTX.out).mono ?_
        rintro e w5 ⟨rfl, hb5⟩
        have HW5 := hid (HW4.out.below hb5); have HB6 := hid (HB5.out.trans (hb5.mono HB5.out.size)); clear hb5
        go_wp2_with fail
        refine (out_S _ _ _ O HO.out _ HW5.out HOLL.out).mono ?_
        rintro e w6 ⟨rfl, hb6⟩
        have HB7 := hid (HB6.out.trans (hb6.mono HB6.out.size)); clear hb6
        go_wp2_with fail
        refine (new_any _ _).mono ?_
        rintro e w' ⟨rfl, rfl⟩
        have hrd := RdAt.newS w6 Q 56
        rw [HQL.out] at hrd
        have HRD := hid hrd; have HB8 := hid (HB7.out.alloc HB7.out.size (.cells #[.string Q] 56)); clear hrd
        go_wp2_with fail
        go_loopw [82] (fun i wx => ∃ k : Nat, k ≤ za.length ∧ i = .int .i64 k ∧ RdAt wx w6.heap.size 0 (encs (za.drop k) ++ tailOf S T) ∧ Below w.heap.size w wx) (fun i _ => za.length - (intOf i).toNat)
        case atStart => exact ⟨0, Nat.zero_le _, rfl, HRD.out, HB8.out⟩
        case round =>
          obtain ⟨k, hk, rfl, hr, hb⟩ := hrel
          have HR := hid hr; have HBX := hid hb; clear hr hb
          by_cases hlt : k < za.length
          · obtain ⟨b1, o1, rfl, hbB, hcell⟩ := HA.out (by omega)
            have hc1 := (HBX.out.cell (p := ⟨b1, o1 + k, none⟩) hbB).trans (hcell k hlt)
            clear hcell
            obtain ⟨z, hz⟩ : ∃ z, z = za.getD k 0 := ⟨_, rfl⟩
            rw [← hz] at hc1
            have hnum : Num32 z := by rw [hz, List.getD_eq_getElem?_getD, List.getElem?_eq_getElem hlt]; exact HALL.out _ (by simp)
            have HD := hid (rest_head za (tailOf S T) k z hlt hz hnum)
            have HD2 := hid (rest_drop za (tailOf S T) k hlt)
            have HL := hid (rest_len za S T k hl hS hT)
            clear hz hnum
            go_wp2_with fail
            refine (num_l _ _ z _ HD.out.1 HD.out.2 HR.out HL.out).mono ?_
            rintro e w7 ⟨rfl, hr7, hg7⟩
            rw [HD2.out] at hr7
            have HR7 := hid hr7; have HB9 := hid (HBX.out.trans (turned_below_of hg7 HBX.out.size HB7.out.size)); clear hr7 hg7
            go_wp2_with fail
            go_roundw
            case rel => exact ⟨k + 1, by omega, by go_num, HR7.out, HB9.out⟩
            case measure => simp [intOf]; omega
          · obtain rfl : k = za.length := by omega
            have hr2 := HR.out
            rw [List.drop_of_length_le (Nat.le_refl _), show encs ([] : List Int) = [] from rfl, List.nil_append] at hr2
            have HR2 := hid hr2; clear hr2 HR
            go_wp2_with fail
            have htl := text_tail w6.heap.size S T _ hS hT HR2.out
            refine htl.mono ?_
            rintro e w7 ⟨rfl, hr7, hg7⟩
            have HR7 := hid hr7; have HB9 := hid (HBX.out.trans (turned_below_of hg7 HBX.out.size HB7.out.size)); clear hr7 hg7 htl
            go_wp2_with fail
            refine (left_gen _ _ _ ⟨_, HR7.out, rfl⟩).mono ?_
            rintro e w' ⟨rfl, rfl⟩
            have hts : (T.data.toList.length : Int) = T.size := by rw [size_list]
            rw [hts]
            clear hts
            go_wp2_with fail
            by_cases hne : T.data.toList = []
            · have hT0 : T = ByteArray.empty := by rw [← mk_data T, hne]; rfl
              have HR8 := HR7.out
              rw [hne] at HR8
              have HR9 := hid HR8
              subst hT0
              clear HR8 hne
              refine (end_none _ _ _ HR9.out).mono ?_
              rintro e w' ⟨rfl, rfl⟩
              go_wp2
              go_ret
              exact ⟨rfl, HB9.out⟩
            · have hb0 : T.toList.isEmpty = false := by rw [toList_eq]; cases h : T.data.toList <;> simp_all
              refine (end_some _ _ _ _ hne HR7.out).mono ?_
              rintro e w' ⟨rfl, rfl⟩
              clear hne
              go_wp2
              go_ret
              exact ⟨rfl, HB9.out⟩
      · have hok : okTo za za.length = false := by simp [okTo]; simpa using hall
        have HOK := hid hok; have HALL := hid hall; clear hok hall
        rw [HOK.out]
        go_wp2_with fail
        refine (wnum_bad _ _ _ za _ ((HRA.out.below HBR.out).mono HBR.out.size) HALL.out (by omega)).mono ?_
        rintro e w' ⟨rfl, rfl⟩
        go_wp2_with fail
        refine (out_S _ _ _ ByteArray.empty rfl _ HWR.out (by simp)).mono ?_
        rintro e w4 ⟨rfl, hb4⟩
        have HB5 := hid (HBR.out.trans (hb4.mono HBR.out.size)); clear hb4
        go_wp2
        go_ret
        exact ⟨rfl, HB5.out⟩

theorem law_writes (va : Value) (za : List Int) (S T : ByteArray) (w : World) (ha : SlIn w .i64 va za) (hS : S.size ≤ maxLen) (hT : T.size ≤ maxLen) :
    Calls Try.prog 3 #[va, .string S, .string T] w fun e w' => e = .returned (.bool true) ∧ Below w.heap.size w w' := by
  by_cases h1 : 100 < za.length
  · exact writes_long va za S T w ha hS hT (.inl h1)
  by_cases h2 : 3000 < S.size
  · exact writes_long va za S T w ha hS hT (.inr (.inl ⟨by omega, h2⟩))
  by_cases h3 : 300 < T.size
  · exact writes_long va za S T w ha hS hT (.inr (.inr ⟨by omega, by omega, h3⟩))
  · exact writes_short va za S T w ha (by omega) (by omega) (by omega)

end Go.Proofs.Ytimdgbklfldfkaa
