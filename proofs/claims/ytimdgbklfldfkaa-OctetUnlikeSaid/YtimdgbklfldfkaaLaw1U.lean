/- Layer 1, octet: OctetUnlike's walk. -/
import Derived.Test.YtimdgbklfldfkaaLaw1
import Derived.Test.YtimdgbklfldfkaaOctRef
import Derived.Deep.QuietTactic
import Derived.BigQuiet
namespace Go.Proofs.Ytimdgbklfldfkaa
open Go.RowKit

/-- Num of whatever numbers: the error, and what it leaves. -/
def numErr (zs : List Int) : Int := if ∀ n ∈ zs, Num32 n then 0 else 2

theorem wnum_any (b o : Nat) (bs : List UInt8) (v : Value) (zs : List Int) (w : World) (h : WrAt w b o bs) (hv : SlI w w.heap.size .i64 v zs) (hl : zs.length ≤ 1000000) (hbl : bs.length ≤ 100000000000) :
    Calls Try.prog 10 #[.pointer (some ⟨b, o, none⟩), v] w fun e w' => e = .returned (.int .i64 (numErr zs)) ∧ WrAt w' b o (bs ++ if ∀ n ∈ zs, Num32 n then encs zs else []) ∧ w.grownBy w' (some b) := by
  by_cases hz : ∀ n ∈ zs, Num32 n
  · have e : numErr zs = 0 := if_pos hz
    rw [e, if_pos hz]
    exact wnum_ok b o bs v zs w h hv hz hl hbl
  · have e : numErr zs = 2 := if_neg hz
    rw [e, if_neg hz]
    refine (wnum_bad b o v zs w hv hz hl).mono ?_
    rintro e w' ⟨rfl, rfl⟩
    exact ⟨rfl, by simpa using h, turned_refl _ _⟩

theorem unlike_long (va vb : Value) (za zb : List Int) (w : World) (ha : SlIn w .i64 va za) (hb : SlIn w .i64 vb zb) (hl : 60 < za.length ∨ (za.length ≤ 60 ∧ 60 < zb.length)) :
    Calls Try.prog 6 #[va, vb] w fun e w' => e = .returned (.bool true) ∧ Below w.heap.size w w' := by
  have h1 := ha.most; have h2 := hb.most
  unfold maxLen at h1 h2
  obtain ⟨⟨A, c, rfl, hc, hA⟩, _, _⟩ := ha
  obtain ⟨⟨A', c', rfl, hc', hA'⟩, _, _⟩ := hb
  clear hA hA'
  rcases hl with hl | ⟨hl, hl2⟩
  all_goals
    go_enter Try.func6, Try.ntmps6
    go_wp2_with fail
    refine (awake1 _).mono ?_
    rintro e w1 ⟨rfl, hb1⟩
    have HB := hid hb1; clear hb1
    go_wp2
    go_ret
    exact ⟨rfl, HB.out⟩

/-- Three new Writers. -/
theorem three (w : World) (X : Obj) (hX : X = .cells #[.pointer none, .int .i64 0] 26) :
    WrAt (((w.alloc X).alloc X).alloc X) w.heap.size 0 [] ∧ WrAt (((w.alloc X).alloc X).alloc X) (w.heap.size + 1) 0 [] ∧ WrAt (((w.alloc X).alloc X).alloc X) (w.heap.size + 2) 0 [] ∧ Below w.heap.size w (((w.alloc X).alloc X).alloc X) := by
  subst hX
  have h1 := WrAt.new w 26 (by decide)
  have h2 := WrAt.new (w.alloc (.cells #[.pointer none, .int .i64 0] 26)) 26 (by decide)
  have h3 := WrAt.new ((w.alloc (.cells #[.pointer none, .int .i64 0] 26)).alloc (.cells #[.pointer none, .int .i64 0] 26)) 26 (by decide)
  simp only [World.size_alloc] at h2 h3
  exact ⟨(h1.alloc _).alloc _, h2.alloc _, h3, (((Below.refl _ _).alloc (Nat.le_refl _) _).alloc (by simp) _).alloc (by simp; omega) _⟩

set_option maxHeartbeats 1000000 in
theorem unlike_bad (va vb : Value) (za zb : List Int) (w : World) (ha : SlIn w .i64 va za) (hb : SlIn w .i64 vb zb) (hl : za.length ≤ 60) (hl2 : zb.length ≤ 60)
    (hbad : (numErr za = 2 ∧ numErr zb = 2) ∨ (numErr za = 2 ∧ numErr zb = 0) ∨ (numErr za = 0 ∧ numErr zb = 2)) :
    Calls Try.prog 6 #[va, vb] w fun e w' => e = .returned (.bool true) ∧ Below w.heap.size w w' := by
  have hra := ha.row; have hrb := hb.row
  have HRA := hid hra; have HRB := hid hrb; clear hra hrb
  obtain ⟨⟨A, c, rfl, hc, hA⟩, _, _⟩ := ha
  obtain ⟨⟨A', c', rfl, hc', hA'⟩, _, _⟩ := hb
  clear hA hA'
  rcases hbad with ⟨e1, e2⟩ | ⟨e1, e2⟩ | ⟨e1, e2⟩
  all_goals
    have E1 := hid e1; have E2 := hid e2; clear e1 e2
    go_enter Try.func6, Try.ntmps6
    go_wp2_with fail
    refine (awake1 _).mono ?_
    rintro e w1 ⟨rfl, hb1⟩
    have HB := hid hb1; clear hb1
    go_wp2_with fail
    obtain ⟨hx, hy, hz, h3⟩ := three w1 _ rfl
    have h3' := HB.out.trans (h3.mono HB.out.size)
    have HY := hid hy; have HX := hid hx; have H3 := hid h3'; clear hx hy hz h3 h3'
    refine (wnum_any _ _ _ _ za _ HX.out ((HRA.out.below H3.out).mono H3.out.size) (by omega) (by simp)).mono ?_
    rintro e w2 ⟨rfl, hx2, hg2⟩
    have hb2 : Below w.heap.size w w2 := H3.out.trans (turned_below_of hg2 H3.out.size HB.out.size)
    have hy2 := HY.out.turned hg2 (by omega) HX.out.notPc
    have HY2 := hid hy2; have HB2 := hid hb2; clear hx2 hg2 hb2 hy2
    rw [E1.out]
    go_wp2_with fail
    refine (wnum_any _ _ _ _ zb _ HY2.out ((HRB.out.below HB2.out).mono HB2.out.size) (by omega) (by simp)).mono ?_
    rintro e w3 ⟨rfl, hy3, hg3⟩
    have hb3 : Below w.heap.size w w3 := HB2.out.trans (turned_below_of hg3 HB2.out.size (by have := HB.out.size; omega))
    have HB3 := hid hb3; clear hy3 hg3 hb3
    rw [E2.out]
    go_wp2
    go_ret
    exact ⟨rfl, HB3.out⟩

/-- Behind the second loop's head: so many numbers are alike, or two are not. -/
def AlikeTo (za zb : List Int) (k : Nat) (sb : Bool) : Prop := (sb = true → za.length = zb.length ∧ za.take k = zb.take k) ∧ (sb = false → za ≠ zb)

theorem AlikeTo.start {za zb : List Int} {eqb : Bool} (h : ((za.length : Int) == (zb.length : Int)) = eqb) : AlikeTo za zb 0 eqb := by
  refine ⟨fun e => ?_, fun e e2 => ?_⟩
  · subst e
    have := beq_iff_eq.1 h
    exact ⟨by omega, by simp⟩
  · subst e
    subst e2
    simp at h

theorem AlikeTo.step {za zb : List Int} {k : Nat} (h : AlikeTo za zb k true) (hk : k < za.length) : AlikeTo za zb (k + 1) (za.getD k 0 == zb.getD k 0) := by
  obtain ⟨h1, h2⟩ := h.1 rfl
  have hk2 : k < zb.length := by omega
  have ea : za.getD k 0 = za[k] := by simp [hk]
  have eb : zb.getD k 0 = zb[k] := by simp [hk2]
  refine ⟨fun e => ⟨h1, ?_⟩, fun e e2 => ?_⟩
  · rw [List.take_succ_eq_append_getElem hk, List.take_succ_eq_append_getElem hk2, h2, ← ea, ← eb, beq_iff_eq.1 e]
  · subst e2
    simp at e

set_option maxHeartbeats 4000000 in
theorem unlike_ok (va vb : Value) (za zb : List Int) (w : World) (ha : SlIn w .i64 va za) (hb : SlIn w .i64 vb zb) (hl : za.length ≤ 60) (hl2 : zb.length ≤ 60)
    (hna : ∀ n ∈ za, Num32 n) (hnb : ∀ n ∈ zb, Num32 n) (eqb : Bool) (hlen : ((za.length : Int) == (zb.length : Int)) = eqb) :
    Calls Try.prog 6 #[va, vb] w fun e w' => e = .returned (.bool true) ∧ Below w.heap.size w w' := by
  have hra := ha.row; have hrb := hb.row
  have HRA := hid hra; have HRB := hid hrb; have HNA := hid hna; have HNB := hid hnb; clear hra hrb hna hnb
  obtain ⟨⟨A, c, rfl, hc, hA⟩, _, _⟩ := ha
  obtain ⟨⟨A', c', rfl, hc', hA'⟩, _, _⟩ := hb
  have HA := hid hA; have HA' := hid hA'; clear hA hA'
  have HL := hid hlen
  go_enter Try.func6, Try.ntmps6
  go_wp2_with fail
  refine (awake1 _).mono ?_
  rintro e w1 ⟨rfl, hb1⟩
  have HB := hid hb1; clear hb1
  go_wp2_with fail
  obtain ⟨hx, hy, hz, h3⟩ := three w1 _ rfl
  have h3' := HB.out.trans (h3.mono HB.out.size)
  have HY := hid hy; have HX := hid hx; have HZ := hid hz; have H3 := hid h3'; clear hx hy hz h3 h3'
  refine (wnum_ok _ _ _ _ za _ HX.out ((HRA.out.below H3.out).mono H3.out.size) HNA.out (by omega) (by simp)).mono ?_
  rintro e w2 ⟨rfl, hx2, hg2⟩
  have hb2 : Below w.heap.size w w2 := H3.out.trans (turned_below_of hg2 H3.out.size HB.out.size)
  have hy2 := HY.out.turned hg2 (by omega) HX.out.notPc
  have hz2 := HZ.out.turned hg2 (by omega) HX.out.notPc
  have HX2 := hid hx2; have HY2 := hid hy2; have HZ2 := hid hz2; have HB2 := hid hb2; clear hx2 hg2 hb2 hy2 hz2
  go_wp2_with fail
  refine (wnum_ok _ _ _ _ zb _ HY2.out ((HRB.out.below HB2.out).mono HB2.out.size) HNB.out (by omega) (by simp)).mono ?_
  rintro e w3 ⟨rfl, hy3, hg3⟩
  have hb3 : Below w.heap.size w w3 := HB2.out.trans (turned_below_of hg3 HB2.out.size (by have := HB.out.size; omega))
  have hx3 := HX2.out.turned hg3 (by omega) HY2.out.notPc
  have hz3 := HZ2.out.turned hg3 (by omega) HY2.out.notPc
  have HX3 := hid hx3; have HY3 := hid hy3; have HZ3 := hid hz3; have HB3 := hid hb3; clear hx3 hg3 hb3 hy3 hz3 HX HY HZ HX2 HY2 HZ2
  go_wp2_with fail
  go_loopw [36] (fun i wr => ∃ k : Nat, k ≤ za.length ∧ i = .int .i64 k ∧ WrAt wr w1.heap.size 0 (encs za) ∧ WrAt wr (w1.heap.size + 1) 0 (encs zb) ∧ WrAt wr (w1.heap.size + 2) 0 (encs (za.take k)) ∧ Below w.heap.size w wr) (fun i _ => za.length - (intOf i).toNat)
  case atStart => exact ⟨0, Nat.zero_le _, rfl, HX3.out, HY3.out, HZ3.out, HB3.out⟩
  case round =>
    obtain ⟨k, hk, rfl, hx, hy, hz, hb⟩ := hrel
    have HX := hid hx; have HY := hid hy; have HZ := hid hz; have HBR := hid hb; clear hx hy hz hb
    by_cases hlt : k < za.length
    · obtain ⟨b1, o1, rfl, hbB, hcell⟩ := HA.out (by omega)
      have hc1 := (HBR.out.cell (p := ⟨b1, o1 + k, none⟩) hbB).trans (hcell k hlt)
      clear hcell
      obtain ⟨z, hz⟩ : ∃ z, z = za.getD k 0 := ⟨_, rfl⟩
      rw [← hz] at hc1
      have HE := hid hz; clear hz
      go_wp2_with fail
      refine (wnum_ok _ _ _ _ [z] _ (HZ.out.alloc _) (SlI.one _ .i64 z _) ?_ (by simp) ?_).mono ?_
      · intro n hn
        rw [List.mem_singleton] at hn
        rw [hn, HE.out]
        exact HNA.out _ (by rw [List.getD_eq_getElem?_getD, List.getElem?_eq_getElem hlt]; simp)
      · rw [encs_len]; have := List.length_take_le k za; omega
      rintro e w4 ⟨rfl, hz4, hg4⟩
      have hnz := (HZ.out.alloc (.cells #[.int .i64 z] 3)).notPc
      have hx4 := (HX.out.alloc _).turned hg4 (by omega) hnz
      have hy4 := (HY.out.alloc _).turned hg4 (by omega) hnz
      have hb4 : Below w.heap.size w w4 := (HBR.out.alloc HBR.out.size _).trans (turned_below_of hg4 (by have := HBR.out.size; simp; omega) (by have := HB.out.size; omega))
      have HX4 := hid hx4; have HY4 := hid hy4; have HZ4 := hid hz4; have HB4 := hid hb4; clear hx4 hy4 hz4 hb4 hg4 hnz
      go_wp2_with fail
      go_roundw
      case rel =>
        refine ⟨k + 1, by omega, by go_num, HX4.out, HY4.out, ?_, HB4.out⟩
        rw [encs_snoc za k hlt, ← HE.out]
        have := HZ4.out
        simpa [encs] using this
      case measure => simp [intOf]; omega
    · obtain rfl : k = za.length := by omega
      go_wp2_with fail
      go_loopw [12, 13] (fun s i wx => ∃ (k : Nat) (sb : Bool) (m : Nat), k ≤ za.length ∧ i = .int .i64 k ∧ s = .bool sb ∧ AlikeTo za zb k sb ∧ wx = wr.drewN m) (fun _ i _ => za.length - (intOf i).toNat)
      case atStart => exact ⟨0, eqb, 0, Nat.zero_le _, rfl, rfl, AlikeTo.start HL.out, rfl⟩
      case round =>
        obtain ⟨k, sb, m, hk, rfl, rfl, hal, rfl⟩ := hrel
        have HAL := hid hal; clear hal
        have fin : ∀ k', (sb = false ∨ k' = za.length) → k' = k → ∃ X Y : ByteArray, X = ⟨(encs za).toArray⟩ ∧ Y = ⟨(encs zb).toArray⟩ ∧ (X.toList == Y.toList) = sb := by
          intro k' h1 h2
          subst h2
          refine ⟨_, _, rfl, rfl, ?_⟩
          obtain ⟨h3, h4⟩ := HAL.out
          cases sb with
          | false => exact str_bne fun e => h4 rfl (encs_inj HNA.out HNB.out (by simpa using e))
          | true =>
            obtain ⟨hL, h5⟩ := h3 rfl
            have h6 : k' = za.length := by simpa using h1
            rw [h6, List.take_of_length_le (Nat.le_refl _), hL, List.take_of_length_le (Nat.le_refl _)] at h5
            exact str_beq (by rw [h5])
        by_cases hgo : sb = true ∧ k < za.length
        · obtain ⟨rfl, hlt⟩ := hgo
          have hlt2 : k < zb.length := by have := (HAL.out.1 rfl).1; omega
          obtain ⟨b1, o1, rfl, hbB, hcell⟩ := HA.out (by omega)
          obtain ⟨b2, o2, rfl, hbB2, hcell2⟩ := HA'.out (by omega)
          have hc1 := (HBR.out.cell (p := ⟨b1, o1 + k, none⟩) hbB).trans (hcell k hlt)
          have hc2 := (HBR.out.cell (p := ⟨b2, o2 + k, none⟩) hbB2).trans (hcell2 k hlt2)
          clear hcell hcell2 fin
          have hst := HAL.out.step hlt
          obtain ⟨z1, hz1⟩ : ∃ z, z = za.getD k 0 := ⟨_, rfl⟩
          obtain ⟨z2, hz2⟩ : ∃ z, z = zb.getD k 0 := ⟨_, rfl⟩
          rw [← hz1] at hc1 hst
          rw [← hz2] at hc2 hst
          have HST := hid hst; clear hst hz1 hz2
          have hi0 : (0 : Int) ≤ k := by omega
          have hi1 : (k : Int) < za.length := by omega
          have hi2 : (k : Int) < zb.length := by omega
          go_wp2_with fail
          go_quiet (fail)
          go_wp2_with fail
          go_roundw
          case rel => exact ⟨k + 1, _, _, by omega, by go_num, rfl, HST.out, rfl⟩
          case measure => simp [intOf]; omega
        · obtain ⟨X, Y, hX, hY, hXY⟩ := fin k (by cases sb <;> simp_all <;> omega) rfl
          have hxs : X.size = 4 * za.length := by rw [hX, size_mk, encs_len]
          have hxl : ((X.size : Int) == 4 * (za.length : Int)) = true := by rw [hxs]; simp
          have HXE := hid hX; have HYE := hid hY; clear hX hY hxs fin HAL
          have HX5 := hid (HX.out.drewN m); have HY5 := hid (HY.out.drewN m)
          have HB5 := hid (below_drewN HBR.out m)
          have hz' : WrAt (wr.drewN m) (w1.heap.size + 2) 0 (encs za) := by
            have := HZ.out.drewN m; rwa [List.take_of_length_le (Nat.le_refl _)] at this
          have HZ5 := hid hz'; clear hz' HX HY HZ HBR
          rcases Bool.eq_false_or_eq_true sb with rfl | rfl
          · have hge : ¬ k < za.length := fun h => hgo ⟨rfl, h⟩
            clear hgo
            go_wp2_with fail
            refine (out_S _ _ _ X HXE.out _ HX5.out (by rw [encs_len]; omega)).mono ?_
            rintro e w6 ⟨rfl, hb6⟩
            have HX6 := hid (HX5.out.below hb6); have HY6 := hid (HY5.out.below hb6); have HZ6 := hid (HZ5.out.below hb6); have HB6 := hid (HB5.out.trans (hb6.mono HB5.out.size))
            clear hb6 HX5 HY5 HZ5 HB5
            go_wp2_with fail
            refine (out_S _ _ _ Y HYE.out _ HY6.out (by rw [encs_len]; omega)).mono ?_
            rintro e w7 ⟨rfl, hb7⟩
            have HX7 := hid (HX6.out.below hb7); have HY7 := hid (HY6.out.below hb7); have HZ7 := hid (HZ6.out.below hb7); have HB7 := hid (HB6.out.trans (hb7.mono HB6.out.size))
            clear hb7 HX6 HY6 HZ6 HB6
            go_wp2_with fail
            refine (out_S _ _ _ X HXE.out _ HX7.out (by rw [encs_len]; omega)).mono ?_
            rintro e w8 ⟨rfl, hb8⟩
            have HX8 := hid (HX7.out.below hb8); have HY8 := hid (HY7.out.below hb8); have HZ8 := hid (HZ7.out.below hb8); have HB8 := hid (HB7.out.trans (hb8.mono HB7.out.size))
            clear hb8 HX7 HY7 HZ7 HB7
            go_wp2_with fail
            refine (out_S _ _ _ X HXE.out _ HZ8.out (by rw [encs_len]; omega)).mono ?_
            rintro e w9 ⟨rfl, hb9⟩
            have HX9 := hid (HX8.out.below hb9); have HY9 := hid (HY8.out.below hb9); have HZ9 := hid (HZ8.out.below hb9); have HB9 := hid (HB8.out.trans (hb9.mono HB8.out.size))
            clear hb9 HX8 HY8 HZ8 HB8
            go_wp2_with fail
            refine (out_S _ _ _ X HXE.out _ HX9.out (by rw [encs_len]; omega)).mono ?_
            rintro e w10 ⟨rfl, hb10⟩
            have HX10 := hid (HX9.out.below hb10); have HY10 := hid (HY9.out.below hb10); have HZ10 := hid (HZ9.out.below hb10); have HB10 := hid (HB9.out.trans (hb10.mono HB9.out.size))
            clear hb10 HX9 HY9 HZ9 HB9
            go_wp2
            go_ret
            exact ⟨rfl, HB10.out⟩
          · clear hgo
            go_wp2_with fail
            refine (out_S _ _ _ X HXE.out _ HX5.out (by rw [encs_len]; omega)).mono ?_
            rintro e w6 ⟨rfl, hb6⟩
            have HX6 := hid (HX5.out.below hb6); have HY6 := hid (HY5.out.below hb6); have HZ6 := hid (HZ5.out.below hb6); have HB6 := hid (HB5.out.trans (hb6.mono HB5.out.size))
            clear hb6 HX5 HY5 HZ5 HB5
            go_wp2_with fail
            refine (out_S _ _ _ Y HYE.out _ HY6.out (by rw [encs_len]; omega)).mono ?_
            rintro e w7 ⟨rfl, hb7⟩
            have HX7 := hid (HX6.out.below hb7); have HY7 := hid (HY6.out.below hb7); have HZ7 := hid (HZ6.out.below hb7); have HB7 := hid (HB6.out.trans (hb7.mono HB6.out.size))
            clear hb7 HX6 HY6 HZ6 HB6
            go_wp2_with fail
            refine (out_S _ _ _ X HXE.out _ HX7.out (by rw [encs_len]; omega)).mono ?_
            rintro e w8 ⟨rfl, hb8⟩
            have HX8 := hid (HX7.out.below hb8); have HY8 := hid (HY7.out.below hb8); have HZ8 := hid (HZ7.out.below hb8); have HB8 := hid (HB7.out.trans (hb8.mono HB7.out.size))
            clear hb8 HX7 HY7 HZ7 HB7
            go_wp2_with fail
            refine (out_S _ _ _ X HXE.out _ HZ8.out (by rw [encs_len]; omega)).mono ?_
            rintro e w9 ⟨rfl, hb9⟩
            have HX9 := hid (HX8.out.below hb9); have HY9 := hid (HY8.out.below hb9); have HZ9 := hid (HZ8.out.below hb9); have HB9 := hid (HB8.out.trans (hb9.mono HB8.out.size))
            clear hb9 HX8 HY8 HZ8 HB8
            go_wp2_with fail
            refine (out_S _ _ _ X HXE.out _ HX9.out (by rw [encs_len]; omega)).mono ?_
            rintro e w10 ⟨rfl, hb10⟩
            have HX10 := hid (HX9.out.below hb10); have HY10 := hid (HY9.out.below hb10); have HZ10 := hid (HZ9.out.below hb10); have HB10 := hid (HB9.out.trans (hb10.mono HB9.out.size))
            clear hb10 HX9 HY9 HZ9 HB9
            go_wp2
            go_ret
            exact ⟨rfl, HB10.out⟩

theorem law_unlike (va : Value) (za : List Int) (vb : Value) (zb : List Int) (w : World) (ha : SlIn w .i64 va za) (hb : SlIn w .i64 vb zb) :
    Calls Try.prog 6 #[va, vb] w fun e w' => e = .returned (.bool true) ∧ Below w.heap.size w w' := by
  by_cases h1 : 60 < za.length
  · exact unlike_long va vb za zb w ha hb (.inl h1)
  by_cases h2 : 60 < zb.length
  · exact unlike_long va vb za zb w ha hb (.inr ⟨by omega, h2⟩)
  by_cases h3 : ∀ n ∈ za, Num32 n
  · by_cases h4 : ∀ n ∈ zb, Num32 n
    · exact unlike_ok va vb za zb w ha hb (by omega) (by omega) h3 h4 _ rfl
    · exact unlike_bad va vb za zb w ha hb (by omega) (by omega) (.inr (.inr ⟨if_pos h3, if_neg h4⟩))
  · by_cases h4 : ∀ n ∈ zb, Num32 n
    · exact unlike_bad va vb za zb w ha hb (by omega) (by omega) (.inr (.inl ⟨if_neg h3, if_pos h4⟩))
    · exact unlike_bad va vb za zb w ha hb (by omega) (by omega) (.inl ⟨if_neg h3, if_neg h4⟩)

end Go.Proofs.Ytimdgbklfldfkaa
