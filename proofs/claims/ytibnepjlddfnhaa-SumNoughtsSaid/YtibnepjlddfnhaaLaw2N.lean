/- Layer 2, sum: SumNoughts' walk. -/
import Derived.Test.YtibnepjlddfnhaaLaw2T
namespace Go.Proofs.Ytibnepjlddfnhaa
open Go.RowKit
set_option linter.unusedVariables false

/-- Noughts are no frame. -/
theorem Opn.noughts (X : ByteArray) (n : Nat) (h : X.data.toList = List.replicate n 0) : Opn X ⟨#[]⟩ X 3 ∨ Opn X ⟨#[]⟩ X 5 := by
  have hz : X.size = n := by rw [size_list, h, List.length_replicate]
  by_cases h8 : X.size < 8
  · exact .inl (.short h8)
  · right
    obtain ⟨k, rfl⟩ : ∃ k, n = 8 + k := ⟨n - 8, by omega⟩
    have hl : X.data.toList = [0, 0, 0, 0] ++ ([0, 0, 0, 0] ++ List.replicate k 0) := by
      rw [h, show ([0, 0, 0, 0] : List UInt8) = List.replicate 4 0 by rfl, List.replicate_append_replicate, List.replicate_append_replicate]
      congr 1; omega
    have hn : uns4 X.data.toList = 0 := by rw [hl]; rfl
    refine .bad 0 hn (by omega) (by omega) ?_
    have e1 : X.data.toList.take 4 ++ (X.data.toList.drop 8).take 0 = [0, 0, 0, 0] := by rw [hl]; rfl
    have e2 : uns4 (X.data.toList.drop 4) = 0 := by rw [hl]; rfl
    rw [e1, e2]
    exact crc_noughts

/-- All frames, one behind the other. -/
def frames (ls : List ByteArray) : List UInt8 := ls.flatMap fun S => frameL S.data.toList

theorem frames_snoc (ls : List ByteArray) (k : Nat) (S : ByteArray) (h : ls[k]? = some S) : frames (ls.take (k + 1)) = frames (ls.take k) ++ frameL S.data.toList := by
  rw [take_snoc' ls k S h, frames, frames, List.flatMap_append, List.flatMap_singleton]

theorem frames_drop (ls : List ByteArray) (k : Nat) (S : ByteArray) (h : ls[k]? = some S) : frames (ls.drop k) = frameL S.data.toList ++ frames (ls.drop (k + 1)) := by
  have hk : k < ls.length := by
    rcases Nat.lt_or_ge k ls.length with h1 | h1
    · exact h1
    · rw [List.getElem?_eq_none h1] at h; cases h
  rw [List.getElem?_eq_getElem hk] at h
  injection h with h
  rw [List.drop_eq_getElem_cons hk, h]
  rfl

theorem make_noughts (w : World) (n : Nat) (hn : n ≤ 2000) : ∃ W, (Instr.makeSlice 34 (.int .u16 n) (.int .u16 n)).run Try.prog w = .ok (.slice (some ⟨w.heap.size, 0, none⟩) n n) W ∧ BytesAt W w.heap.size (List.replicate n 0) ∧ Below w.heap.size w W := by
  obtain ⟨i0, hi, hz0, hz1, hz2⟩ := info_parts u8info
  have hr := run_make (P := Try.prog) w 34 5 i0 (.int .u8 0) Try.underlying34 hi hz0 .u16 .u16 n n (by omega) (by omega) (by rw [hz2]; omega) (by omega)
  simp only [Int.toNat_natCast] at hr
  refine ⟨_, hr, fun j c hj => ?_, (Below.refl _ w).alloc (Nat.le_refl _) _⟩
  rw [cell_of_row _ _ _ _ _ _ (heap_alloc_new w _), ← Array.getElem?_toList, hz1, Nat.mul_one]
  have hm := toList_madeCells_one (.int .u8 0) n
  have hm2 : (madeCells (Value.int .u8 0).cells n).toList = List.replicate n (.int .u8 0) := hm
  rw [hm2]
  have hjl : j < n := by
    rcases Nat.lt_or_ge j n with h1 | h1
    · exact h1
    · rw [List.getElem?_eq_none (by simpa using h1)] at hj; cases hj
  rw [List.getElem?_replicate, if_pos hjl] at hj ⊢
  injection hj with hj
  rw [← hj]; rfl

theorem frames_len (ls : List ByteArray) : ∀ S ∈ ls, 8 + S.size ≤ (frames ls).length := by
  induction ls with
  | nil => intro S h; cases h
  | cons T ls ih =>
    intro S h
    have e : frames (T :: ls) = frameL T.data.toList ++ frames ls := rfl
    rw [e, List.length_append]
    rcases List.mem_cons.1 h with rfl | h
    · rw [frameL_len, size_list]; omega
    · have := ih S h; omega

set_option maxRecDepth 100000 in
set_option maxHeartbeats 2000000 in
theorem law_noughts (m : Int) (v : Value) (ls : List ByteArray) (w : World) (hmw : (Lit.int .u16 m).wf = true) (h : SsIn w v ls) :
    Calls Try.prog 6 #[.int .u16 m, v] w fun e w' => e = .returned (.bool true) ∧ Below w.heap.size w w' := by
  have hmb : 0 ≤ m ∧ m ≤ 65535 := by simpa [Lit.wf, IntKind.min, IntKind.max, IntKind.signed, IntKind.bits] using hmw
  obtain ⟨hm0, hm1⟩ := hmb
  clear hmw
  obtain ⟨hv, hz, hmost⟩ := h
  have HZ := hid hz; clear hz
  obtain ⟨A, c, rfl, hc, hA⟩ := hv
  have HA := hid hA; clear hA
  by_cases h1 : 2000 < m
  · go_enter Try.func6, Try.ntmps6
    go_wp2_with fail
    refine (awake2 _).mono ?_
    rintro e w1 ⟨rfl, hb1⟩
    have HB := hid hb1; clear hb1
    go_wp2
    go_ret
    exact ⟨rfl, HB.out⟩
  by_cases h2 : 40 < ls.length
  · go_enter Try.func6, Try.ntmps6
    go_wp2_with fail
    refine (awake2 _).mono ?_
    rintro e w1 ⟨rfl, hb1⟩
    have HB := hid hb1; clear hb1
    go_wp2
    go_ret
    exact ⟨rfl, HB.out⟩
  obtain ⟨n, rfl⟩ := Int.eq_ofNat_of_zero_le hm0
  obtain ⟨X, hX⟩ : ∃ X : ByteArray, X = ⟨(List.replicate n (0 : UInt8)).toArray⟩ := ⟨_, rfl⟩
  have hXs : X.size = n := by rw [hX, size_mk, List.length_replicate]
  have hXs2 : X.size ≤ 4000 := by omega
  obtain ⟨E, hE, hE0⟩ : ∃ E : Int, Opn X ⟨#[]⟩ X E ∧ (E == 0) = false := by
    rcases Opn.noughts X n (by rw [hX]) with h | h
    · exact ⟨3, h, rfl⟩
    · exact ⟨5, h, rfl⟩
  have HE := hid hE; have HX := hid hX
  clear hXs hE hX
  go_enter Try.func6, Try.ntmps6
  go_wp2_with fail
  refine (awake2 _).mono ?_
  rintro e w1 ⟨rfl, hb1⟩
  have HB := hid hb1; clear hb1
  obtain ⟨W, hmk, hBA, hbW⟩ := make_noughts w1 n (by omega)
  have hcv := str_of_bytes W w1.heap.size n n _ hBA (by simp) X HX.out
  have HBW := hid (HB.out.trans (hbW.mono HB.out.size))
  clear hBA hbW
  go_wp2_with fail
  clear hmk hcv
  refine (open_gen X ⟨#[]⟩ X E HE.out (by omega) _).mono ?_
  rintro e w2 ⟨rfl, hb2⟩
  have HB2 := hid (HBW.out.trans (hb2.mono HBW.out.size)); clear hb2
  go_wp2_with fail
  go_loopw [8, 37] (fun t i wr => ∃ (k : Nat) (T : ByteArray), k ≤ ls.length ∧ T.size ≤ 4000 ∧ T = ⟨(frames (ls.take k)).toArray⟩ ∧ i = .int .i64 k ∧ t = .string T ∧ Below w.heap.size w wr) (fun _ i _ => ls.length - (intOf i).toNat)
  case atStart => exact ⟨0, ⟨#[]⟩, Nat.zero_le _, by decide, rfl, rfl, rfl, HB2.out⟩
  case round =>
    obtain ⟨k, T, hk, hT, hJ, rfl, rfl, hbr⟩ := hrel
    have HJ := hid hJ; have HBR := hid hbr; clear hJ hbr
    by_cases hlt : k < ls.length
    · obtain ⟨b, o, rfl, hbB, hcell⟩ := HA.out (by omega)
      obtain ⟨S, hS⟩ : ∃ S, ls[k]? = some S := ⟨_, List.getElem?_eq_getElem hlt⟩
      have hc1 := (HBR.out.cell (p := ⟨b, o + k, none⟩) hbB).trans (hcell k S hS)
      have hsz := HZ.out S (List.mem_of_getElem? hS)
      have HN := hid (frames_snoc ls k S hS)
      clear hcell hS
      by_cases hbig : 3000 < T.size + S.size
      · go_wp2
        go_ret
        exact ⟨rfl, HBR.out⟩
      · obtain ⟨F, hF⟩ : ∃ F : ByteArray, F = ⟨(frameL S.data.toList).toArray⟩ := ⟨_, rfl⟩
        have HF := hid hF
        have hFs : F.size = 8 + S.size := by rw [hF, size_mk, frameL_len, ← size_list]
        obtain ⟨U, hU⟩ : ∃ U, T ++ F = U := ⟨_, rfl⟩
        have HU := hid hU
        have hUs : U.size ≤ 4000 := by rw [← hU, size_append, hFs]; omega
        have hFs2 : F.size ≤ 4000 := by omega
        clear hF hFs
        go_wp2_with fail
        refine (frame_any S F HF.out (by omega) _).mono ?_
        rintro e w3 ⟨rfl, hb3⟩
        have HB3 := hid (HBR.out.trans (hb3.mono HBR.out.size)); clear hb3 hc1
        go_wp2
        go_roundw
        case rel => exact ⟨k + 1, U, by omega, hUs, by rw [HN.out, ← HU.out, HJ.out, HF.out, mk_append], by go_num, rfl, HB3.out⟩
        case measure => simp [intOf]; omega
    · have HT2 : Hid (T = ⟨(frames (ls.drop 0)).toArray⟩) := hid (by
        have : k = ls.length := by omega
        rw [HJ.out, this, List.take_of_length_le (Nat.le_refl _)]; rfl)
      have HS3 : Hid (∀ S ∈ ls, S.size ≤ 4000) := hid (fun S hS => by
        have e := HT2.out
        rw [List.drop_zero] at e
        have h1 := frames_len ls S hS
        rw [e, size_mk] at hT
        omega)
      obtain ⟨wo, rfl⟩ : ∃ wo : World, wo = wr := ⟨_, rfl⟩
      go_wp2_with fail
      go_loopw [8, 54] (fun t i wr => ∃ (q : Nat) (T : ByteArray), q ≤ ls.length ∧ T.size ≤ 4000 ∧ T = ⟨(frames (ls.drop q)).toArray⟩ ∧ i = .int .i64 q ∧ t = .string T ∧ Below w.heap.size w wr) (fun _ i _ => ls.length - (intOf i).toNat)
      case atStart => exact ⟨0, T, Nat.zero_le _, hT, HT2.out, rfl, rfl, HBR.out⟩
      case round =>
        clear HT2 HJ HBR hT hlt hk
        obtain ⟨q, T, hq, hT, hJ, rfl, rfl, hbr⟩ := hrel
        have HJ := hid hJ; have HBR := hid hbr; clear hJ hbr
        by_cases hlt : q < ls.length
        · obtain ⟨b, o, rfl, hbB, hcell⟩ := HA.out (by omega)
          obtain ⟨S, hS⟩ : ∃ S, ls[q]? = some S := ⟨_, List.getElem?_eq_getElem hlt⟩
          have hc1 := (HBR.out.cell (p := ⟨b, o + q, none⟩) hbB).trans (hcell q S hS)
          have hsz := HS3.out S (List.mem_of_getElem? hS)
          have hd := frames_drop ls q S hS
          obtain ⟨R, hR⟩ : ∃ R : ByteArray, R = ⟨(frames (ls.drop (q + 1))).toArray⟩ := ⟨_, rfl⟩
          have hTl : T.data.toList = frameL S.data.toList ++ R.data.toList := by rw [HJ.out, hR]; exact hd
          have HO : Hid (Opn T S R 0) := hid (Opn.of_frame T S R hTl (by omega))
          have hTs : T.size = 8 + S.size + R.size := by rw [size_list, hTl, List.length_append, frameL_len, ← size_list, ← size_list]
          have HR := hid hR
          have hRs : R.size ≤ 4000 := by omega
          have hne : ((R.size : Int) != (T.size : Int) - 8 - (S.size : Int)) = false := by simp; omega
          clear hcell hS hd hTl hR hTs
          go_wp2_with fail
          refine (open_gen T S R 0 HO.out (by omega) _).mono ?_
          rintro e w3 ⟨rfl, hb3⟩
          have HB3 := hid (HBR.out.trans (hb3.mono HBR.out.size)); clear hb3 hc1
          go_wp2
          go_roundw
          case rel => exact ⟨q + 1, R, by omega, hRs, HR.out, by go_num, rfl, HB3.out⟩
          case measure => simp [intOf]; omega
        · obtain rfl : T = ⟨#[]⟩ := by
            have : q = ls.length := by omega
            rw [HJ.out, this, List.drop_of_length_le (Nat.le_refl _)]; rfl
          go_wp2
          go_ret
          exact ⟨rfl, HBR.out⟩

end Go.Proofs.Ytibnepjlddfnhaa
