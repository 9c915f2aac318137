/- Layer 6, vm: EMIT; do. -/
import Derived.Test.YtfohdoahddommaaDoorVmF
namespace Go.Proofs.YtfohdoahddommaaDoor
open Go.RowKit Go.Lib
set_option linter.unusedVariables false
set_option maxRecDepth 100000

section
variable {W w w' : World} {B b : Nat} {vp vs vo : Value} {st out : List (Int × Int)} {c0 c1 : Int × Int} {n : Nat} {fx : List Nat}

/-- take, the rows as they lie. -/
theorem take_rows {x y : Int} (hV : Hid (MchV W B b (mcells vp vs vo ⟨st, out, c0, c1, n⟩) vs vo st out)) (hF : Hid (Frn W b vs vo fx)) (h0 : 0 < st.length) (h8 : st.length ≤ 800) (hx : Hid (topV st 1 = (x, y))) (w : World) (hb : Hid (Below W.heap.size W w)) :
    Calls Tryd.prog 36 #[.pointer (some ⟨b, 0, none⟩)] w fun e w' => e = .returned (val x y) ∧ ∃ vs4, Hid (MchV w' B b (mcells vp vs4 vo ⟨cutV st 1, out, c0, c1, n⟩) vs4 vo (cutV st 1) out) ∧ Hid (Frn w' b vs4 vo fx) ∧ Hid (MP B b vp ⟨cutV st 1, out, c0, c1, n⟩ fx W w') := by
  have hVw := hV.out.below hb.out
  have hMw := Mch2.here (hid (⟨vs, vo, hV.out, hF.out⟩ : Mch2 W B b vp ⟨st, out, c0, c1, n⟩ fx)) hb
  refine (take_v (s := ⟨st, out, c0, c1, n⟩) hVw h0 (by simp only; omega)).mono ?_
  rintro e w' ⟨rfl, ⟨vs', hb', hm'⟩, hg⟩
  have hs := hb.out.size
  have hF' : Frn w' b vs' vo fx := fun r hr => by
    obtain ⟨p, q, d, e⟩ := hF.out r hr
    exact ⟨Nat.lt_of_lt_of_le p (Nat.le_trans hs hg.size), q, by rw [hb']; exact d, e⟩
  refine ⟨by simp only; rw [hx.out], vs', hid hm', hid hF', hid (hMw.trans ⟨⟨vs', vo, hm', hF'⟩, fun r hr => ?_, (Below.refl B w).grown hg (Nat.le_trans hVw.le (Nat.le_of_lt hVw.lt)) (fun k hk => by injection hk with hk; rw [← hk]; exact hVw.le)⟩)⟩
  obtain ⟨p, q, d, e⟩ := hF.out r hr
  exact hg.block r (Nat.lt_of_lt_of_le p hs) (by intro z; injection z with z; exact q z)

/-- What EMIT makes of the machine. -/
theorem emit_mp {v' : Value} {x y : Int} (hV : MchV w B b (mcells vp vs vo ⟨st, out, c0, c1, n⟩) vs vo st out) (hf : Frn w b vs vo fx) (ho : w'.ownsRow (b + 1) 24 2 v' (out.length + 1) (insCells out ++ [.int .i64 x, .int .i64 y])) (hg : w.grownBy w' vo.ownBlock)
    (hv : v'.ownBlock = vo.ownBlock ∨ ∀ k, v'.ownBlock = some k → w.heap.size ≤ k) : MP B b vp ⟨st, out ++ [(x, y)], c0, c1, n⟩ fx w (w'.setCell ⟨b, 0, none⟩ v') ∧ w'.cell? ⟨b, 0, none⟩ = some vo ∧ w'.frozen? ⟨b, 0, none⟩ = false := by
  obtain ⟨hE, hB⟩ := hV.emit (q := [(x, y)]) ho hg hv
  refine ⟨⟨⟨vs, v', hE.set 0 (by omega) v', fun r hr => ?_⟩, fun r hr => ?_, hB.setCell hV.le _⟩, hE.cells 0 (by omega), hE.fr 0⟩
  · obtain ⟨p, q, d, e⟩ := hf r hr
    refine ⟨by rw [World.size_setCell]; exact Nat.lt_of_lt_of_le p hB.size, q, d, ?_⟩
    rcases hv with hv | hv
    · rw [hv]; exact e
    · intro z; have := hv r z; omega
  · obtain ⟨p, q, d, e⟩ := hf r hr
    rw [Below.heap_setCell _ _ _ _ q]
    exact hg.block r p (fun z => e z.symm)

set_option maxHeartbeats 1000000 in
theorem do_emit (h : Mch2 w B b vp ⟨st, out, c0, c1, n⟩ fx) (h0 : 0 < st.length) (h8 : st.length ≤ 800) (ho8 : out.length ≤ 1000000000) (a v1 v2 : Int) : DoIs w B b vp fx ⟨cutV st 1, out ++ [topV st 1], c0, c1, n⟩ 14 a v1 v2 := by
  unfold DoIs
  obtain ⟨x, y, hxy⟩ := pair_of (p := topV st 1)
  have HX := hid hxy
  obtain ⟨W, hW, HM, _, HE⟩ := box_do h 14 a v1 v2 37 24
  have hb0 : Hid (Below W.heap.size W W.drew) := hid (Below.refl _ _).drew
  obtain ⟨vs, vo, hV, hF⟩ := HM.out
  obtain ⟨A, co, rfl⟩ := own_form hV.ono
  obtain ⟨m, hm⟩ : ∃ m, out.length = m := ⟨_, rfl⟩
  have HN := hid hm
  rw [hm] at hV hF ho8
  have m0 : W.cell? ⟨b, 0, none⟩ = some (.slice A m co) := hV.cells 0 (by omega)
  have HV := hid hV
  have HF := hid hF
  obtain ⟨i0, hi, hz0, hz1, hz2⟩ := info_parts valInfo
  clear hxy hm hV hF
  go_enter Tryd.func37, Tryd.ntmps37
  go_wp2_with fail
  clear hW
  go_region_law (first
    | (go_simp; go_at_call 36; ((refine (take_rows (W := W) HV HF h0 h8 HX _ ?_).mono ?_); assumption; rintro e w4 ⟨rfl, vs4, HV4, HF4, HM4⟩; have m0 := (show w4.cell? ⟨b, 0, none⟩ = some (.slice A m co) from HV4.out.cells 0 (by omega)); have hl4 := HV4.out.lt; have HC : Hid (∀ j u, [Value.int .i64 x, Value.int .i64 y][j]? = some u → (w4.alloc (.cells #[.int .i64 x, .int .i64 y] 24)).cell? ((⟨w4.heap.size, 0, none⟩ : Addr).add j) = some u) := hid (fun j u hj => new_cells _ #[.int .i64 x, .int .i64 y] _ j u (by simpa using hj)); have HV5 := hid (HV4.out.below ((Below.refl _ w4).alloc (Nat.le_refl _) (.cells #[.int .i64 x, .int .i64 y] 24)))))
    | (refine step_append_blk (w := w4.alloc (.cells #[.int .i64 x, .int .i64 y] 24)) rfl (.tmp 98) (.tmp 101) 26 rfl (b + 1) 24 i0 (.agg #[.int .i64 0, .int .i64 0]) 2 16 Tryd.underlying26 hi hz0 hz1 hz2 rfl (by decide) (.slice A m co) m (insCells out) (by simp [Act.eval]) (by have := HV5.out.ono; rw [HN.out] at this; exact this) ⟨w4.heap.size, 0, none⟩ 1 1 [.int .i64 x, .int .i64 y] (by simp [Act.eval]) rfl HC.out (by intro u hu; simp at hu; rcases hu with rfl | rfl <;> rfl) (by unfold maxLen; omega) (by omega) (Nat.lt_of_lt_of_le hl4 (by rw [World.size_alloc]; omega)) ?_; intro v' w5 hown5 hg5 hb5; obtain ⟨A5, c5, rfl⟩ := own_form hown5; obtain ⟨HM5, n0, f0⟩ := emit_mp (fx := (w.heap.size + 1) :: w.heap.size :: fx) HV5.out (fun r hr => ⟨by have := (HF4.out r hr).1; rw [World.size_alloc]; omega, (HF4.out r hr).2⟩) (by rw [HN.out]; exact hown5) hg5 hb5; have HM5 := hid HM5; clear hown5 hg5 hb5))
  all_goals
    go_wp2_with fail
    go_end0
    refine ⟨rfl, HE.out _ _ ?_⟩
    rw [HX.out]
    exact (HM4.out.trans (HM4.out.m.alloc _)).trans HM5.out

/-- do, whatever the operation is. -/
theorem do_any (o a v1 v2 : Int) (s : VmS) (h : Mch2 w B b vp s fx) (hi : rightI (o, a) = true) (hn : o ≠ 0 ∧ o ≠ 15 ∧ o ≠ 16) (htk : tkI o ≤ s.st.length) (h8 : s.st.length ≤ 800) (ho8 : s.out.length ≤ 1000000000) (hr : VmR s) : DoIs w B b vp fx (doS o a (v1, v2) s) o a v1 v2 := by
  obtain ⟨b0, b1, b2, b3⟩ := rightI_bounds hi
  simp only at b0 b1 b2 b3
  obtain ⟨st, out, c0, c1, n⟩ := s
  have h1 : 1 ≤ tkI o → 0 < st.length := fun q => by simp only at htk; omega
  have h2 : 2 ≤ tkI o → 2 ≤ st.length := fun q => by simp only at htk; omega
  have r1 := rg_top hr.st 1
  have r2 := rg_top hr.st 2
  simp only at r1 r2 h8 ho8
  have hc : o = 1 ∨ o = 2 ∨ o = 3 ∨ o = 4 ∨ o = 5 ∨ o = 9 ∨ o = 10 ∨ o = 13 ∨ o = 14 ∨ o = 11 ∨ o = 12 ∨ (o = 6 ∨ o = 7 ∨ o = 8 ∨ o = 17) := by omega
  have ha : o = 4 ∨ o = 5 → a = 0 ∨ a = 1 := by
    intro q
    unfold rightI at hi
    simp only [Bool.and_eq_true, decide_eq_true_eq] at hi
    have l0 : loI o = 0 := by unfold loI; rw [if_neg (by omega), if_neg (by omega)]
    have l1 : hiI o = 1 := by unfold hiI; rw [if_neg (by omega), if_pos (by omega)]
    omega
  rcases hc with rfl | rfl | rfl | rfl | rfl | rfl | rfl | rfl | rfl | rfl | rfl | ho
  · exact do_push h h8 a v1 v2 (hid ⟨b2, b3⟩)
  · exact do_pushi h h8 a v1 v2 (hid ⟨b2, b3⟩)
  · exact do_in h h8 a v1 v2
  · rcases ha (.inl rfl) with rfl | rfl
    · exact do_load0 h h8 v1 v2
    · exact do_load1 h h8 v1 v2
  · rcases ha (.inr rfl) with rfl | rfl
    · exact do_store0 h (h1 (by decide)) h8 v1 v2
    · exact do_store1 h (h1 (by decide)) h8 v1 v2
  · exact do_conj h (h1 (by decide)) h8 a v1 v2 r1
  · exact do_turn h (h1 (by decide)) h8 a v1 v2 r1
  · exact do_drop h (h1 (by decide)) h8 a v1 v2
  · exact do_emit h (h1 (by decide)) h8 ho8 a v1 v2
  · exact do_dup h (h1 (by decide)) h8 a v1 v2
  · exact do_swap h (h2 (by decide)) h8 a v1 v2
  · have e : doS o a (v1, v2) ⟨st, out, c0, c1, n⟩ = ⟨cutV st 2 ++ [twoV o (topV st 2) (topV st 1)], out, c0, c1, n⟩ := by
      rcases ho with rfl | rfl | rfl | rfl <;> rfl
    rw [e]
    exact do_two o ho h (h2 (by rcases ho with rfl | rfl | rfl | rfl <;> decide)) h8 a v1 v2 r1 r2

end

end Go.Proofs.YtfohdoahddommaaDoor
