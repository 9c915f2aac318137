/- Layer 4, code: the walk of CodeBytes. -/
import Derived.Test.YtpjoeljjhgchpaaDoorCodL
import Derived.Test.YtpjoeljjhgchpaaDoorCodH
namespace Go.Proofs.YtpjoeljjhgchpaaDoor
open Go.RowKit Go.Lib
set_option linter.unusedVariables false

theorem out_str (b : Nat) (bs : List UInt8) (P : ByteArray) (hP : Hid ((⟨bs.toArray⟩ : ByteArray) = P)) (w : World) (h : WrAt w b 0 bs) (hl : bs.length ≤ 100000000000) :
    Calls Tryd.prog 16 #[.pointer (some ⟨b, 0, none⟩)] w fun e w' => e = .returned (.string P) ∧ Below w.heap.size w w' := by
  have := out_any b 0 bs w h hl
  rw [hP.out] at this
  exact this

theorem left_str (b : Nat) (l : List UInt8) (n : Nat) (hn : Hid (l.length = n)) (w : World) (h1 : RdAt w b 0 l) :
    Calls Tryd.prog 20 #[.pointer (some ⟨b, 0, none⟩)] w fun e w' => e = .returned (.int .i64 n) ∧ w = w' := by
  have := left_any b 0 l w h1
  rw [hn.out] at this
  exact this

theorem GetO.len {s : List UInt8} {l : List (Int × Int)} {e : Int} {r : List UInt8} (h : GetO s l e r) : l.length ≤ 1000000000000 ∧ r.length ≤ s.length := by
  cases h with
  | bad _ _ _ => exact ⟨by simp, by simp⟩
  | good _ _ h =>
    unfold getR at h
    cases hn : numR s with
    | bad e => rw [hn] at h; cases h
    | good l' r' =>
      rw [hn] at h
      change (if fitsL l' = true then RdO.good l' r' else RdO.bad 4) = _ at h
      split at h
      · injection h with h1 h2
        subst h1; subst h2
        refine ⟨numR_len hn, ?_⟩
        unfold numR at hn
        split at hn
        · cases hn
        · split at hn
          · cases hn
          · have := (rdA_len _ _ _ hn).2
            rw [List.length_drop] at this
            omega
      · cases h

theorem GetO.ways {s : List UInt8} {l : List (Int × Int)} {e : Int} {r : List UInt8} (h : GetO s l e r) : e = 0 ∨ e ≠ 0 := by omega

set_option maxRecDepth 100000 in
set_option maxHeartbeats 4000000 in
theorem law_cbytes (v : Value) (p : List (Int × Int)) (S : ByteArray) (w : World) (hv : SvIn w v p) (hS : S.size ≤ 9223372036854775807) (he : Env4 w) :
    Calls Tryd.prog 4 #[v, .string S] w fun e w' => e = .returned (.bool true) ∧ Below w.heap.size w w' := by
  have HE := hid he; clear he
  have hm := hv.most
  unfold maxLen at hm
  have HV := hid hv.row
  obtain ⟨⟨A, c, rfl, hc, hA⟩, _, _⟩ := hv
  clear hA
  go_enter Tryd.func4, Tryd.ntmps4
  go_wp2_with fail
  refine (awake4 w HE.out).mono ?_
  rintro e w1 ⟨rfl, hb⟩
  have HW := hid hb; clear hb
  by_cases h60 : 60 < p.length
  · have d1 : decide ((60 : Int) < (p.length : Int)) = true := decide_eq_true (by omega)
    go_wp2_with fail
    go_ret
    exact ⟨rfl, HW.out⟩
  have d1 : decide ((60 : Int) < (p.length : Int)) = false := decide_eq_false (by omega)
  by_cases h1000 : 1000 < S.size
  · have d2 : decide ((1000 : Int) < (S.size : Int)) = true := decide_eq_true (by omega)
    go_wp2_with fail
    go_ret
    exact ⟨rfl, HW.out⟩
  have d2 : decide ((1000 : Int) < (S.size : Int)) = false := decide_eq_false (by omega)
  have hl : p.length ≤ 1000000000000 := by omega
  have HSL := hid (size_data S)
  have HWA := hid (WrAt.new w1 36 (by decide))
  have HWX := hid (HW.out.alloc HW.out.size (.cells #[.pointer none, .int .i64 0] 36))
  have hbw : w.heap.size ≤ w1.heap.size := HW.out.size
  clear hm
  cases hf : fitsL p with
  | false =>
    have HF := hid hf; clear hf
    go_wp2_with fail
    clear d1 d2
    refine (cput_bad _ 0 _ p HF hl _ (HV.out.here HWX)).mono ?_
    rintro e w2 ⟨rfl, hb⟩
    have HW2 := hid (HWX.out.trans (hb.mono HWX.out.size))
    have HA2 := hid (HWA.out.below hb)
    clear hb HWA HWX
    go_wp2_with fail
    refine (cput_nil _ _).mono ?_
    rintro e w3 ⟨rfl, rfl⟩
    go_wp2_with fail
    refine (reffits_any _ p false HF hl _ (HV.out.here HW2)).mono ?_
    rintro e w4 ⟨rfl, hb⟩
    have HW4 := hid (HW2.out.trans (hb.mono HW2.out.size))
    have HA4 := hid (HA2.out.below hb)
    clear hb HA2 HW2
    go_wp2_with fail
    refine (out_str _ [] ⟨#[]⟩ (hid rfl) _ HA4.out (by simp)).mono ?_
    rintro e w5 ⟨rfl, hb⟩
    have HW5 := hid (HW4.out.trans (hb.mono HW4.out.size))
    clear hb HA4 HW4
    go_wp2_with fail
    refine (new_any S _).mono ?_
    rintro e wc ⟨rfl, rfl⟩
    have hnc : (w5.alloc (.cells #[.string S] 70)).cell? ⟨w5.heap.size, 0, none⟩ = some (.string S) := by simp
    have hnf : (w5.alloc (.cells #[.string S] 70)).frozen? ⟨w5.heap.size, 0, none⟩ = false := by simp
    have HNC := hid hnc; have HNF := hid hnf; clear hnc hnf
    go_wp2_with fail
    refine (cget_any _ S (by omega) _ HNC.out HNF.out).mono ?_
    rintro e wd ⟨⟨vd, ld, Ed, rd, rfl, hgd, hvd, hrd⟩, hg⟩
    have HWd : Hid (Below w.heap.size w wd) := hid (HW5.out.trans ((((Below.refl _ w5).alloc (Nat.le_refl _) _).trans (turned_below_of hg (by simp) (Nat.le_refl _))).mono HW5.out.size))
    have HVd := hid hvd
    have HGd := hid hgd
    have HRd := hid hrd
    clear hgd hvd hrd hg HW5 HNC HNF
    go_wp2_with fail
    refine (rget_any S (by omega) _).mono ?_
    rintro e we ⟨⟨ve, le, Ee, re, m, rfl, hge, hve, hre⟩, hb⟩
    obtain ⟨rfl, rfl, rfl⟩ := HGd.out.det hge
    have HWe := hid (HWd.out.trans (hb.mono HWd.out.size))
    have HVde := hid (HVd.out.here (hid hb))
    have HVe := hid hve
    have HRde : Hid (Ed = 0 → RdAt we _ 0 rd) := hid (fun h => (HRd.out h).below hb)
    have HMe := hid hre
    have HLd := hid hge.len
    have hEE : (Ed == Ed) = true := by simp
    clear hge hve hre hb HWd HVd HRd
    go_wp2_with fail
    refine (same_any vd ve ld HLd.out.1 _ HVde.out HVe.out).mono ?_
    rintro e wf ⟨rfl, hb⟩
    have HWf := hid (HWe.out.trans (hb.mono HWe.out.size))
    have HRf : Hid (Ed = 0 → RdAt wf _ 0 rd) := hid (fun h => (HRde.out h).below hb)
    clear hb HWe HVde HVe HRde
    by_cases h0 : Ed = 0
    · subst h0
      obtain ⟨rl, hrl⟩ : ∃ n, rd.length = n := ⟨_, rfl⟩
      have hrs : rl ≤ 1000 := by have := HLd.out.2; rw [HSL.out] at this; omega
      have HRL := hid hrl; clear hrl
      have hmm : (S.size : Int) - m = (rl : Int) := by have := HMe.out rfl; rw [HRL.out] at this; omega
      go_wp2_with fail
      refine (left_str _ rd rl HRL _ (HRf.out (by trivial))).mono ?_
      rintro e wg ⟨rfl, rfl⟩
      go_wp2_with fail
      go_ret
      exact ⟨rfl, HWf.out⟩
    · have hne : (Ed != 0) = true := by simpa using h0
      go_wp2_with fail
      go_ret
      exact ⟨rfl, HWf.out⟩
  | true =>
    have HF := hid hf; clear hf
    obtain ⟨P, hP⟩ : ∃ P : ByteArray, (⟨(encs (numsL p)).toArray⟩ : ByteArray) = P := ⟨_, rfl⟩
    have hlen : (encs (numsL p)).length ≤ 200 := by
      have h24 := ((fitsL_iff p).1 HF.out).1
      rw [encs_len, ← numsTo_all, numsTo_len p _ (Nat.le_refl _)]
      omega
    have hPs : P.size ≤ 200 := by rw [← hP, size_mk]; exact hlen
    have HP := hid hP; have HLEN := hid hlen; clear hP hlen
    obtain ⟨Q, hQ⟩ : ∃ Q : ByteArray, P ++ S = Q := ⟨_, rfl⟩
    have hQs : Q.size ≤ 1200 := by rw [← hQ, ByteArray.size_append]; omega
    have hm1 : ¬ 9223372036854775807 < P.size + S.size := by omega
    have HQ : Hid (getR Q.data.toList = .good p S.data.toList) := hid (by
      rw [← hQ, bytes_append, ← HP.out]
      exact getR_put HF.out _)
    go_wp2_with fail
    clear d1 d2
    refine (cput_ok _ 0 [] _ p HF (by simp) _ (HV.out.here HWX) HWA.out).mono ?_
    rintro e w2 ⟨rfl, hw2, hg⟩
    have HW2 := hid (HWX.out.trans (turned_below_of hg HWX.out.size hbw))
    rw [List.nil_append] at hw2
    have HA2 := hid hw2
    clear hw2 hg HWA HWX
    go_wp2_with fail
    refine (cput_nil _ _).mono ?_
    rintro e w3 ⟨rfl, rfl⟩
    go_wp2_with fail
    refine (reffits_any _ p true HF hl _ (HV.out.here HW2)).mono ?_
    rintro e w4 ⟨rfl, hb⟩
    have HW4 := hid (HW2.out.trans (hb.mono HW2.out.size))
    have HA4 := hid (HA2.out.below hb)
    clear hb HA2 HW2
    go_wp2_with fail
    refine (out_str _ _ P HP _ HA4.out (by have := HLEN.out; omega)).mono ?_
    rintro e w5 ⟨rfl, hb⟩
    have HW5 := hid (HW4.out.trans (hb.mono HW4.out.size))
    have HA5 := hid (HA4.out.below hb)
    clear hb HA4 HW4
    go_wp2_with fail
    refine (new_any Q _).mono ?_
    rintro e w6 ⟨rfl, rfl⟩
    have hnc : (w5.alloc (.cells #[.string Q] 70)).cell? ⟨w5.heap.size, 0, none⟩ = some (.string Q) := by simp
    have hnf : (w5.alloc (.cells #[.string Q] 70)).frozen? ⟨w5.heap.size, 0, none⟩ = false := by simp
    have HNC := hid hnc; have HNF := hid hnf; clear hnc hnf
    go_wp2_with fail
    refine (cget_any _ Q (by omega) _ HNC.out HNF.out).mono ?_
    rintro e w7 ⟨⟨v7, l7, E7, r7, rfl, hg7, hv7, hr7⟩, hg⟩
    obtain ⟨rfl, rfl, rfl⟩ := hg7.det (.good _ _ HQ.out)
    have HB57 : Hid (Below w5.heap.size w5 w7) := hid (((Below.refl _ w5).alloc (Nat.le_refl _) _).trans (turned_below_of hg (by simp) (Nat.le_refl _)))
    have HW7 := hid (HW5.out.trans (HB57.out.mono HW5.out.size))
    have HA7 := hid (HA5.out.below HB57.out)
    have HV7 := hid hv7
    have HR7 := hid (hr7 rfl)
    clear hg7 hv7 hr7 hg HA5 HW5 HB57 HNC HNF
    go_wp2_with fail
    refine (out_str _ _ P HP _ HA7.out (by have := HLEN.out; omega)).mono ?_
    rintro e w8 ⟨rfl, hb⟩
    have HW8 := hid (HW7.out.trans (hb.mono HW7.out.size))
    have HV8 := hid (HV7.out.here (hid hb))
    have HR8 := hid (HR7.out.below hb)
    clear hb HA7 HW7 HV7 HR7
    go_wp2_with fail
    refine (rput_any _ l7 P HP HF _ (HV.out.here HW8)).mono ?_
    rintro e w9 ⟨rfl, hb⟩
    have HW9 := hid (HW8.out.trans (hb.mono HW8.out.size))
    have HV9 := hid (HV8.out.here (hid hb))
    have HR9 := hid (HR8.out.below hb)
    clear hb HW8 HV8 HR8
    have hss := str_beq (S := P) (T := P) rfl
    go_wp2_with fail
    refine (same_any _ v7 l7 hl _ (HV.out.here HW9) HV9.out).mono ?_
    rintro e wa ⟨rfl, hb⟩
    have HWa := hid (HW9.out.trans (hb.mono HW9.out.size))
    have HRa := hid (HR9.out.below hb)
    clear hb HW9 HV9 HR9
    go_wp2_with fail
    refine (left_str _ S.data.toList S.size HSL _ HRa.out).mono ?_
    rintro e wb ⟨rfl, rfl⟩
    have HW5 := HWa
    clear HWa HRa
    go_wp2_with fail
    refine (new_any S _).mono ?_
    rintro e wc ⟨rfl, rfl⟩
    have hnc : (wa.alloc (.cells #[.string S] 70)).cell? ⟨wa.heap.size, 0, none⟩ = some (.string S) := by simp
    have hnf : (wa.alloc (.cells #[.string S] 70)).frozen? ⟨wa.heap.size, 0, none⟩ = false := by simp
    have HNC := hid hnc; have HNF := hid hnf; clear hnc hnf
    go_wp2_with fail
    refine (cget_any _ S (by omega) _ HNC.out HNF.out).mono ?_
    rintro e wd ⟨⟨vd, ld, Ed, rd, rfl, hgd, hvd, hrd⟩, hg⟩
    have HWd : Hid (Below w.heap.size w wd) := hid (HW5.out.trans ((((Below.refl _ wa).alloc (Nat.le_refl _) _).trans (turned_below_of hg (by simp) (Nat.le_refl _))).mono HW5.out.size))
    have HVd := hid hvd
    have HGd := hid hgd
    have HRd := hid hrd
    clear hgd hvd hrd hg HW5 HNC HNF
    go_wp2_with fail
    refine (rget_any S (by omega) _).mono ?_
    rintro e we ⟨⟨ve, le, Ee, re, m, rfl, hge, hve, hre⟩, hb⟩
    obtain ⟨rfl, rfl, rfl⟩ := HGd.out.det hge
    have HWe := hid (HWd.out.trans (hb.mono HWd.out.size))
    have HVde := hid (HVd.out.here (hid hb))
    have HVe := hid hve
    have HRde : Hid (Ed = 0 → RdAt we _ 0 rd) := hid (fun h => (HRd.out h).below hb)
    have HMe := hid hre
    have HLd := hid hge.len
    have hEE : (Ed == Ed) = true := by simp
    clear hge hve hre hb HWd HVd HRd
    go_wp2_with fail
    refine (same_any vd ve ld HLd.out.1 _ HVde.out HVe.out).mono ?_
    rintro e wf ⟨rfl, hb⟩
    have HWf := hid (HWe.out.trans (hb.mono HWe.out.size))
    have HRf : Hid (Ed = 0 → RdAt wf _ 0 rd) := hid (fun h => (HRde.out h).below hb)
    clear hb HWe HVde HVe HRde
    by_cases h0 : Ed = 0
    · subst h0
      obtain ⟨rl, hrl⟩ : ∃ n, rd.length = n := ⟨_, rfl⟩
      have hrs : rl ≤ 1000 := by have := HLd.out.2; rw [HSL.out] at this; omega
      have HRL := hid hrl; clear hrl
      have hmm : (S.size : Int) - m = (rl : Int) := by have := HMe.out rfl; rw [HRL.out] at this; omega
      go_wp2_with fail
      refine (left_str _ rd rl HRL _ (HRf.out (by trivial))).mono ?_
      rintro e wg ⟨rfl, rfl⟩
      go_wp2_with fail
      go_ret
      exact ⟨rfl, HWf.out⟩
    · have hne : (Ed != 0) = true := by simpa using h0
      go_wp2_with fail
      go_ret
      exact ⟨rfl, HWf.out⟩

end Go.Proofs.YtpjoeljjhgchpaaDoor
