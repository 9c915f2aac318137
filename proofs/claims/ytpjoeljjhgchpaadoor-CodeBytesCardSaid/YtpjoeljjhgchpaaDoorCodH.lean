/- Layer 4, code: bytes that are read, as the document says: forebayref04.Get. -/
import Derived.Test.YtpjoeljjhgchpaaDoorCodG
namespace Go.Proofs.YtpjoeljjhgchpaaDoor
open Go.RowKit Go.Lib
set_option linter.unusedVariables false

theorem get_ok' (S : ByteArray) (z : Int) (hz : Hid (head4 S.data.toList = z)) (w : World) (h4 : 4 ≤ S.size) (hl : S.size ≤ 1000000000000) :
    Calls Tryd.prog 36 #[.string S] w fun e w' => e = .returned (.tuple #[.int .i64 z, .bool true]) ∧ w = w' := by
  have := get_ok S w h4 hl
  rw [hz.out] at this
  exact this

theorem ext_drop (S : ByteArray) (k : Nat) : (S.extract k S.size).data.toList = S.data.toList.drop k := by
  rw [ByteArray.data_extract, Array.toList_extract]
  have : S.data.toList.length = S.size := (size_list S).symm
  simp [List.take_of_length_le, this]

/-- What is read so far, in the document's way. -/
structure HSt (W : World) (q : List (Int × Int)) (v : Value) (w : World) : Prop where
  own : w.ownsRow W.heap.size 27 2 v q.length (insCells q)
  bel : Below W.heap.size W w

set_option maxRecDepth 100000 in
set_option maxHeartbeats 2000000 in
theorem rget_any (S : ByteArray) (hs : S.size ≤ 1000000) (w : World) :
    Calls Tryd.prog 21 #[.string S] w fun e w' => (∃ v l E rest m, e = .returned (.tuple #[v, .int .i64 m, .int .i64 E]) ∧ GetO S.data.toList l E rest ∧ SlV w' w'.heap.size v l ∧ (E = 0 → m = (S.size : Int) - (rest.length : Int))) ∧ Below w.heap.size w w' := by
  have hsl := size_data S
  have HSL := hid hsl; clear hsl
  by_cases h4 : S.size < 4
  · have HN := hid (getR_bad (numR_short (s := S.data.toList) (by rw [HSL.out]; exact h4)))
    go_enter Tryd.func21, Tryd.ntmps21
    go_wp2_with fail
    refine (get_short S _ h4).mono ?_
    rintro e w1 ⟨rfl, rfl⟩
    go_wp2_with fail
    go_ret3
    exact ⟨⟨_, [], 3, [], 0, rfl, .bad 3 HN.out (by decide), ⟨none, 0, rfl, Nat.le_refl _, fun h => absurd h (by simp)⟩, fun e => by cases e⟩, Below.refl _ _⟩
  have g4 : 4 ≤ S.size := by omega
  clear h4
  obtain ⟨z, hz⟩ : ∃ z, head4 S.data.toList = z := ⟨_, rfl⟩
  have HZ := hid hz; clear hz
  by_cases hx : z < 0 ∨ 24 < z
  · have HN := hid (getR_bad (numR_range (s := S.data.toList) (by rw [HSL.out]; exact g4) HZ.out hx))
    rcases (show z < 0 ∨ (¬ z < 0 ∧ 24 < z) by omega) with h1 | ⟨h1, h2⟩
    all_goals
      clear hx
      go_enter Tryd.func21, Tryd.ntmps21
      go_wp2_with fail
      refine (get_ok' S z HZ _ g4 (by omega)).mono ?_
      rintro e w1 ⟨rfl, rfl⟩
      go_wp2_with fail
      go_ret3
      exact ⟨⟨_, [], 2, [], 0, rfl, .bad 2 HN.out (by decide), ⟨none, 0, rfl, Nat.le_refl _, fun h => absurd h (by simp)⟩, fun e => by cases e⟩, Below.refl _ _⟩
  obtain ⟨n, rfl⟩ : ∃ n : Nat, z = (n : Int) := ⟨z.toNat, by omega⟩
  have hn : n ≤ 24 := by omega
  have HN := hid (numR_ok (s := S.data.toList) (by rw [HSL.out]; exact g4) HZ.out hn)
  clear hx
  obtain ⟨i0, hi, hz0, hz1, hz2⟩ := info_parts insInfo
  have HO0 : Hid (HSt w [] (.slice (some ⟨w.heap.size, 0, none⟩) 0 0) (w.alloc (.cells #[] 27))) := hid ⟨World.ownsRow_lit (base := w.heap.size) (size := 2) (e := 27) w #[] 0 (Nat.le_refl _) (by unfold maxLen; omega) rfl, (Below.refl _ w).alloc (Nat.le_refl _) _⟩
  go_enter Tryd.func21, Tryd.ntmps21
  go_wp2_with fail
  refine (get_ok' S (n : Int) HZ _ g4 (by omega)).mono ?_
  rintro e w1 ⟨rfl, rfl⟩
  go_wp2_with fail
  go_loopw [7, 8, 9] (fun v at_ i wr => ∃ (k : Nat) (q : List (Int × Int)), k ≤ n ∧ i = .int .i64 k ∧ at_ = .int .i64 ((4 + 8 * k : Nat) : Int) ∧ q.length = k ∧ 4 + 8 * k ≤ S.size ∧ Hid (HSt w q v wr) ∧ Hid (numR S.data.toList = rdA (n - k) q (S.data.toList.drop (4 + 8 * k)))) (fun _ _ i _ => n - (RowKit.intOf i).toNat)
  case atStart => exact ⟨0, [], Nat.zero_le _, rfl, rfl, rfl, by omega, HO0, HN⟩
  case round =>
    clear HO0
    obtain ⟨k, q, hk, rfl, rfl, hq, hat, HG, HR⟩ := hrel
    obtain ⟨t, ht⟩ : ∃ t, 4 + 8 * k = t := ⟨_, rfl⟩
    have HT := hid ht
    rw [ht] at hat HR ⊢
    clear ht
    by_cases hlt : k < n
    · obtain ⟨m, hm⟩ : ∃ m, n - k = m + 1 := ⟨n - k - 1, by omega⟩
      have HRm : Hid (numR S.data.toList = rdA (m + 1) q (S.data.toList.drop t)) := hid (by rw [← hm]; exact HR.out)
      have HMK : Hid (n - (k + 1) = m) := hid (by omega)
      clear hm
      obtain ⟨S1, hS1⟩ : ∃ S1, S.extract t S.size = S1 := ⟨_, rfl⟩
      have hS1z : S1.size = S.size - t := by rw [← hS1, ByteArray.size_extract]; omega
      have HS1 : Hid (S1.data.toList = S.data.toList.drop t) := hid (by rw [← hS1, ext_drop])
      have hS1l : Hid ((S.data.toList.drop t).length = S.size - t) := hid (by rw [List.length_drop, HSL.out])
      have i0' : (0 : Int) ≤ (t : Int) := by omega
      have i1' : (t : Int) ≤ (S.size : Int) := by omega
      by_cases r4 : S1.size < 4
      · have HE := hid (getR_bad (HRm.out.trans (rdA_short (by rw [hS1l.out]; omega))))
        have R4 := hid r4
        clear r4 hS1z
        go_wp2_with fail
        refine (get_short S1 _ R4.out).mono ?_
        rintro e w2 ⟨rfl, rfl⟩
        go_wp2_with fail
        go_ret3
        exact ⟨⟨_, [], 3, [], 0, rfl, .bad 3 HE.out (by decide), ⟨none, 0, rfl, Nat.le_refl _, fun h => absurd h (by simp)⟩, fun e => by cases e⟩, HG.out.bel⟩
      have HR4 : Hid (4 ≤ S1.size) := hid (by omega)
      obtain ⟨o, ho⟩ : ∃ z, head4 S1.data.toList = z := ⟨_, rfl⟩
      have HO := hid ho; clear ho
      have HO' : Hid (head4 (S.data.toList.drop t) = o) := hid (by rw [← HS1.out]; exact HO.out)
      by_cases hx : o < 0 ∨ 17 < o
      · have HE := hid (getR_bad (HRm.out.trans (rdA_range (by rw [hS1l.out]; omega) HO'.out hx)))
        rcases (show o < 0 ∨ (¬ o < 0 ∧ 17 < o) by omega) with h1 | ⟨h1, h2⟩
        all_goals
          have HSZ : Hid (S1.size ≤ 1000000000000) := hid (by omega)
          clear hx r4 hS1z
          go_wp2_with fail
          refine (get_ok' S1 o HO _ HR4.out HSZ.out).mono ?_
          rintro e w2 ⟨rfl, rfl⟩
          go_wp2_with fail
          go_ret3
          exact ⟨⟨_, [], 2, [], 0, rfl, .bad 2 HE.out (by decide), ⟨none, 0, rfl, Nat.le_refl _, fun h => absurd h (by simp)⟩, fun e => by cases e⟩, HG.out.bel⟩
      have hx0 : ¬ o < 0 := by omega
      have hx1 : ¬ 17 < o := by omega
      clear hx
      obtain ⟨S2, hS2⟩ : ∃ S2, S.extract (t + 4) S.size = S2 := ⟨_, rfl⟩
      have hS2z : S2.size = S.size - (t + 4) := by rw [← hS2, ByteArray.size_extract]; omega
      have HS2 : Hid (S2.data.toList = (S.data.toList.drop t).drop 4) := hid (by rw [← hS2, ext_drop, List.drop_drop])
      have j0 : (0 : Int) ≤ (t : Int) + 4 := by omega
      have j1 : (t : Int) + 4 ≤ (S.size : Int) := by omega
      have j2 : ((t : Int) + 4).toNat = t + 4 := by omega
      have j3 : IntKind.i64.wrap ((t : Int) + 4) = (t : Int) + 4 := by rw [IntKind.wrap_i64]; omega
      have HSZ1 : Hid (S1.size ≤ 1000000000000) := hid (by omega)
      have HSZ2 : Hid (S2.size ≤ 1000000000000) := hid (by omega)
      by_cases r8 : S2.size < 4
      · have HE := hid (getR_bad (HRm.out.trans (rdA_short8 (by rw [hS1l.out]; omega) HO'.out (by omega) (by omega) (by rw [hS1l.out]; omega))))
        have R8 := hid r8
        clear r8 r4 hS1z hS2z
        go_wp2_with fail
        refine (get_ok' S1 o HO _ HR4.out HSZ1.out).mono ?_
        rintro e w2 ⟨rfl, rfl⟩
        go_wp2_with fail
        refine (get_short S2 _ R8.out).mono ?_
        rintro e w3 ⟨rfl, rfl⟩
        go_wp2_with fail
        go_ret3
        exact ⟨⟨_, [], 3, [], 0, rfl, .bad 3 HE.out (by decide), ⟨none, 0, rfl, Nat.le_refl _, fun h => absurd h (by simp)⟩, fun e => by cases e⟩, HG.out.bel⟩
      obtain ⟨a, ha⟩ : ∃ z, head4 S2.data.toList = z := ⟨_, rfl⟩
      have HA := hid ha; clear ha
      have HA' : Hid (head4 ((S.data.toList.drop t).drop 4) = a) := hid (by rw [← HS2.out]; exact HA.out)
      have HE := hid (HRm.out.trans (rdA_ok (by rw [hS1l.out]; omega) HO'.out (by omega) (by omega) HA'.out))
      have HR8 : Hid (4 ≤ S2.size) := hid (by omega)
      have HT8 : Hid (t + 8 ≤ S.size) := hid (by omega)
      clear r8 r4 hS1z hS2z
      go_wp2_with fail
      refine (get_ok' S1 o HO _ HR4.out HSZ1.out).mono ?_
      rintro e w2 ⟨rfl, rfl⟩
      go_wp2_with fail
      refine (get_ok' S2 a HA _ HR8.out HSZ2.out).mono ?_
      rintro e w3 ⟨rfl, rfl⟩
      have HO4 := hid (HG.out.own.alloc (.cells #[.int .i64 o, .int .i64 a] 27))
      have HB4 := hid (HG.out.bel.alloc HG.out.bel.size (.cells #[.int .i64 o, .int .i64 a] 27))
      have HC : Hid (∀ j u, [Value.int .i64 o, Value.int .i64 a][j]? = some u → (wr.alloc (.cells #[.int .i64 o, .int .i64 a] 27)).cell? ((⟨wr.heap.size, 0, none⟩ : Addr).add j) = some u) := hid (fun j u hj => new_cells _ #[.int .i64 o, .int .i64 a] _ j u (by simpa using hj))
      have hsz : w.heap.size ≤ (wr.alloc (.cells #[.int .i64 o, .int .i64 a] 27)).heap.size := HB4.out.size
      have hql : q.length ≤ 24 := by omega
      go_wp2_with (at_builtin; refine wpList_append_own _ rfl _ _ 22 rfl w.heap.size 27 i0 (.agg #[.int .i64 0, .int .i64 0]) 2 16 Tryd.underlying22 hi hz0 hz1 hz2 rfl (by decide) _ _ _ rfl HO4.out ⟨wr.heap.size, 0, none⟩ 1 1 [.int .i64 o, .int .i64 a] rfl rfl HC.out (by intro u hu; simp at hu; rcases hu with rfl | rfl <;> rfl) (by unfold maxLen; omega) (by omega) hsz ?_; intro v' w5 hown5 hg5 _; have HO5 : Hid (w5.ownsRow w.heap.size 27 2 v' (q ++ [(o, a)]).length (insCells (q ++ [(o, a)]))) := hid (by rw [insCells_snoc, List.length_append]; exact hown5); have HB5 := hid (HB4.out.grown hg5 HB4.out.size (fun k hk => (HO4.out.lt k hk).1)); clear hown5 hg5)
      go_roundw
      case rel => exact ⟨k + 1, q ++ [(o, a)], by omega, by go_num, by have := HT.out; go_num, by rw [List.length_append]; simp; omega, by have := HT.out; have := HT8.out; omega, hid ⟨HO5.out, HB5.out⟩, hid (by have e := HE.out; have := HT.out; rw [List.drop_drop] at e; rw [HMK.out, show 4 + 8 * (k + 1) = t + 8 by omega]; exact e)⟩
      case measure => simp [RowKit.intOf]; omega
    · have hkn : k = n := by omega
      have HE : Hid (numR S.data.toList = .good q (S.data.toList.drop t)) := hid (by
        have := HR.out
        rw [hkn, Nat.sub_self] at this
        exact this)
      have HQL := hid (numR_len HE.out)
      have HV := hid (SlV.of_own HG.out.own)
      clear hkn
      cases hfit : fitsL q with
      | false =>
        have HF := hid hfit; clear hfit
        go_wp2_with fail
        refine (reffits_any _ q false HF HQL.out _ HV.out).mono ?_
        rintro e w3 ⟨rfl, hb⟩
        have HB3 := hid (HG.out.bel.trans (hb.mono HG.out.bel.size)); clear hb
        go_wp2_with fail
        go_ret3
        exact ⟨⟨_, [], 4, [], 0, rfl, .bad 4 (getR_not HE.out HF.out) (by decide), ⟨none, 0, rfl, Nat.le_refl _, fun h => absurd h (by simp)⟩, fun e => by cases e⟩, HB3.out⟩
      | true =>
        have HF := hid hfit; clear hfit
        go_wp2_with fail
        refine (reffits_any _ q true HF HQL.out _ HV.out).mono ?_
        rintro e w3 ⟨rfl, hb⟩
        have HB3 := hid (HG.out.bel.trans (hb.mono HG.out.bel.size))
        have HV3 := hid (HV.out.here (hid hb)); clear hb
        go_wp2_with fail
        go_ret3
        exact ⟨⟨_, q, 0, S.data.toList.drop t, t, rfl, .good q _ (getR_of HE.out HF.out), HV3.out, fun _ => by rw [List.length_drop, HSL.out]; omega⟩, HB3.out⟩

end Go.Proofs.YtpjoeljjhgchpaaDoor
