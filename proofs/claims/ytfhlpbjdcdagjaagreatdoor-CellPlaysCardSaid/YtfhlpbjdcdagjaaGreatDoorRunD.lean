/- Layer 6, vm: the document's Run: its operations, 2. -/
import Derived.Test.YtfhlpbjdcdagjaaGreatDoorRunC
namespace Go.Proofs.YtfhlpbjdcdagjaaGreatDoor
open Go.RowKit Go.Lib
set_option linter.unusedVariables false
set_option maxRecDepth 100000

section
variable {w : World} {v1 v2 : Int} {x0 : Value} {N1 T1 : Int} {a : Int} {s : VmS}

set_option maxHeartbeats 4000000 in
theorem rop_pushi : Rop w v1 v2 x0 N1 T1 T1 2 a s (stepS 2 a (v1, v2) s) := by
  intro K2 K3 Q' A n cs Z vo act wr hn hZ h8 hfr HRM hK2
  obtain ⟨i0, hi, hz0, hz1, hz2⟩ := info_parts valInfo
  have hbs : w.heap.size + 1 + 1 + 1 ≤ (wr.alloc (.cells #[.int .i64 0, .int .i64 a] 31)).heap.size := by have := HRM.out.base; rw [World.size_alloc]; omega
  have HO := hid (HRM.out.ownAt hn.out (.cells #[.int .i64 0, .int .i64 a] 31))
  have HA := hid (HRM.out.alloc (.cells #[.int .i64 0, .int .i64 a] 31))
  have HC := one_val wr 0 a 31
  obtain ⟨u, rfl⟩ := hfr.open_
  clear hfr
  conv => arg 2; whnf
  go_wp2_with (at_builtin; refine wpList_append_blk rfl _ _ 77 rfl (w.heap.size + 1 + 1 + 1) 31 i0 (.agg #[.int .i64 0, .int .i64 0]) 2 16 Tryz.underlying77 hi hz0 hz1 hz2 rfl (by decide) (.slice A n cs) n (insCells s.st) rfl HO.out ⟨wr.heap.size, 0, none⟩ 1 1 [.int .i64 0, .int .i64 a] rfl rfl HC.out (one_valc _ _) (by unfold maxLen; omega) (by omega) hbs ?_; intro v' w5 hown5 hg5 hb5; obtain ⟨A', c', rfl⟩ := own_form hown5; have HM5 := hid (HA.out.push hn.out hown5 hg5 hb5); clear hown5 hg5 hb5)
  exact NXr.mk ⟨rfl, rfl, rfl, rfl, rfl, rfl, rfl, rfl, rfl, rfl, rfl, rfl, rfl⟩ (hid (HM5.out.to rfl rfl rfl rfl))

set_option maxHeartbeats 4000000 in
theorem rop_in : Rop w v1 v2 x0 N1 T1 T1 3 a s (stepS 3 a (v1, v2) s) := by
  intro K2 K3 Q' A n cs Z vo act wr hn hZ h8 hfr HRM hK2
  obtain ⟨i0, hi, hz0, hz1, hz2⟩ := info_parts valInfo
  have hbs : w.heap.size + 1 + 1 + 1 ≤ (wr.alloc (.cells #[.int .i64 v1, .int .i64 v2] 31)).heap.size := by have := HRM.out.base; rw [World.size_alloc]; omega
  have HO := hid (HRM.out.ownAt hn.out (.cells #[.int .i64 v1, .int .i64 v2] 31))
  have HA := hid (HRM.out.alloc (.cells #[.int .i64 v1, .int .i64 v2] 31))
  have HC := one_val wr v1 v2 31
  have k0 := HRM.out.k0
  have k1 := HRM.out.k1
  obtain ⟨u, rfl⟩ := hfr.open_
  clear hfr
  conv => arg 2; whnf
  go_wp2_with (at_builtin; refine wpList_append_blk rfl _ _ 77 rfl (w.heap.size + 1 + 1 + 1) 31 i0 (.agg #[.int .i64 0, .int .i64 0]) 2 16 Tryz.underlying77 hi hz0 hz1 hz2 rfl (by decide) (.slice A n cs) n (insCells s.st) rfl HO.out ⟨wr.heap.size, 0, none⟩ 1 1 [.int .i64 v1, .int .i64 v2] rfl rfl HC.out (one_valc _ _) (by unfold maxLen; omega) (by omega) hbs ?_; intro v' w5 hown5 hg5 hb5; obtain ⟨A', c', rfl⟩ := own_form hown5; have HM5 := hid (HA.out.push hn.out hown5 hg5 hb5); clear hown5 hg5 hb5)
  exact NXr.mk ⟨rfl, rfl, rfl, rfl, rfl, rfl, rfl, rfl, rfl, rfl, rfl, rfl, rfl⟩ (hid (HM5.out.to rfl rfl rfl rfl))

set_option maxHeartbeats 4000000 in
theorem rop_load0 : Rop w v1 v2 x0 N1 T1 T1 4 0 s (stepS 4 0 (v1, v2) s) := by
  intro K2 K3 Q' A n cs Z vo act wr hn hZ h8 hfr HRM hK2
  obtain ⟨i0, hi, hz0, hz1, hz2⟩ := info_parts valInfo
  have hbs : w.heap.size + 1 + 1 + 1 ≤ (wr.alloc (.cells #[.int .i64 s.c0.1, .int .i64 s.c0.2] 31)).heap.size := by have := HRM.out.base; rw [World.size_alloc]; omega
  have HO := hid (HRM.out.ownAt hn.out (.cells #[.int .i64 s.c0.1, .int .i64 s.c0.2] 31))
  have HA := hid (HRM.out.alloc (.cells #[.int .i64 s.c0.1, .int .i64 s.c0.2] 31))
  have HC := one_val wr s.c0.1 s.c0.2 31
  have k0 := HRM.out.box.q0
  have k1 := HRM.out.box.q1
  obtain ⟨u, rfl⟩ := hfr.open_
  clear hfr
  conv => arg 2; whnf
  go_wp2_with (at_builtin; refine wpList_append_blk rfl _ _ 77 rfl (w.heap.size + 1 + 1 + 1) 31 i0 (.agg #[.int .i64 0, .int .i64 0]) 2 16 Tryz.underlying77 hi hz0 hz1 hz2 rfl (by decide) (.slice A n cs) n (insCells s.st) rfl HO.out ⟨wr.heap.size, 0, none⟩ 1 1 [.int .i64 s.c0.1, .int .i64 s.c0.2] rfl rfl HC.out (one_valc _ _) (by unfold maxLen; omega) (by omega) hbs ?_; intro v' w5 hown5 hg5 hb5; obtain ⟨A', c', rfl⟩ := own_form hown5; have HM5 := hid (HA.out.push hn.out hown5 hg5 hb5); clear hown5 hg5 hb5)
  exact NXr.mk ⟨rfl, rfl, rfl, rfl, rfl, rfl, rfl, rfl, rfl, rfl, rfl, rfl, rfl⟩ (hid (HM5.out.to rfl rfl rfl rfl))

set_option maxHeartbeats 4000000 in
theorem rop_load1 : Rop w v1 v2 x0 N1 T1 T1 4 1 s (stepS 4 1 (v1, v2) s) := by
  intro K2 K3 Q' A n cs Z vo act wr hn hZ h8 hfr HRM hK2
  obtain ⟨i0, hi, hz0, hz1, hz2⟩ := info_parts valInfo
  have hbs : w.heap.size + 1 + 1 + 1 ≤ (wr.alloc (.cells #[.int .i64 s.c1.1, .int .i64 s.c1.2] 31)).heap.size := by have := HRM.out.base; rw [World.size_alloc]; omega
  have HO := hid (HRM.out.ownAt hn.out (.cells #[.int .i64 s.c1.1, .int .i64 s.c1.2] 31))
  have HA := hid (HRM.out.alloc (.cells #[.int .i64 s.c1.1, .int .i64 s.c1.2] 31))
  have HC := one_val wr s.c1.1 s.c1.2 31
  have k0 := HRM.out.box.q2
  have k1 := HRM.out.box.q3
  obtain ⟨u, rfl⟩ := hfr.open_
  clear hfr
  conv => arg 2; whnf
  go_wp2_with (at_builtin; refine wpList_append_blk rfl _ _ 77 rfl (w.heap.size + 1 + 1 + 1) 31 i0 (.agg #[.int .i64 0, .int .i64 0]) 2 16 Tryz.underlying77 hi hz0 hz1 hz2 rfl (by decide) (.slice A n cs) n (insCells s.st) rfl HO.out ⟨wr.heap.size, 0, none⟩ 1 1 [.int .i64 s.c1.1, .int .i64 s.c1.2] rfl rfl HC.out (one_valc _ _) (by unfold maxLen; omega) (by omega) hbs ?_; intro v' w5 hown5 hg5 hb5; obtain ⟨A', c', rfl⟩ := own_form hown5; have HM5 := hid (HA.out.push hn.out hown5 hg5 hb5); clear hown5 hg5 hb5)
  exact NXr.mk ⟨rfl, rfl, rfl, rfl, rfl, rfl, rfl, rfl, rfl, rfl, rfl, rfl, rfl⟩ (hid (HM5.out.to rfl rfl rfl rfl))

set_option maxHeartbeats 4000000 in
theorem rop_dup (h0 : 1 ≤ s.st.length) : Rop w v1 v2 x0 N1 T1 T1 11 a s (stepS 11 a (v1, v2) s) := by
  intro K2 K3 Q' A n cs Z vo act wr hn hZ h8 hfr HRM hK2
  obtain ⟨z1, z2, z3, z4, z5, z6⟩ := top_nums hZ.out (by rw [← hn.out]; exact h0) h8 (HRM.out.shape hn.out)
  obtain ⟨g, rfl, hgl, hgf, ⟨t0, t1⟩, _⟩ := HRM.out.tops hn.out (by rw [← hn.out]; exact h0)
  have HEF := hid (eff_dup hn.out (by rw [← hn.out]; exact h0))
  obtain ⟨i0, hi, hz0, hz1, hz2⟩ := info_parts valInfo
  have hbs : w.heap.size + 1 + 1 + 1 ≤ (wr.alloc (.cells #[.int .i64 (topV s.st 1).1, .int .i64 (topV s.st 1).2] 31)).heap.size := by have := HRM.out.base; rw [World.size_alloc]; omega
  have HO := hid (HRM.out.ownAt hn.out (.cells #[.int .i64 (topV s.st 1).1, .int .i64 (topV s.st 1).2] 31))
  have HA := hid (HRM.out.alloc (.cells #[.int .i64 (topV s.st 1).1, .int .i64 (topV s.st 1).2] 31))
  have HC := one_val wr (topV s.st 1).1 (topV s.st 1).2 31
  obtain ⟨u, rfl⟩ := hfr.open_
  clear hfr
  conv => arg 2; whnf
  go_wp2_with (at_builtin; refine wpList_append_blk rfl _ _ 77 rfl (w.heap.size + 1 + 1 + 1) 31 i0 (.agg #[.int .i64 0, .int .i64 0]) 2 16 Tryz.underlying77 hi hz0 hz1 hz2 rfl (by decide) (.slice (some ⟨g, 0, none⟩) n cs) n (insCells s.st) rfl HO.out ⟨wr.heap.size, 0, none⟩ 1 1 [.int .i64 (topV s.st 1).1, .int .i64 (topV s.st 1).2] rfl rfl HC.out (one_valc _ _) (by unfold maxLen; omega) (by omega) hbs ?_; intro v' w5 hown5 hg5 hb5; obtain ⟨A', c', rfl⟩ := own_form hown5; have HM5 := hid (HA.out.push hn.out hown5 hg5 hb5); clear hown5 hg5 hb5)
  exact NXr.mk ⟨rfl, rfl, rfl, rfl, rfl, rfl, rfl, rfl, rfl, rfl, rfl, rfl, rfl⟩ (hid (HM5.out.to HEF.out rfl rfl rfl))

end

end Go.Proofs.YtfhlpbjdcdagjaaGreatDoor
