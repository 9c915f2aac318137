/- Layer 6, vm: the document's Run: its operations, 3. -/
import Derived.Test.YtfhlpbjdcdagjaaGreatDoorRunC
namespace Go.Proofs.YtfhlpbjdcdagjaaGreatDoor
open Go.RowKit Go.Lib
set_option linter.unusedVariables false
set_option maxRecDepth 100000

section
variable {w : World} {v1 v2 : Int} {x0 : Value} {N1 T1 : Int} {a : Int} {s : VmS}

theorem CBx.put0 {wr : World} {g : Nat} {r0 r1 : Int × Int} (h : CBx wr g r0 r1) (a b : Int) : CBx ((wr.setCell ⟨g, 0, none⟩ (.int .i64 a)).setCell ⟨g, 1, none⟩ (.int .i64 b)) g (a, b) r1 ∧ wr.grownBy ((wr.setCell ⟨g, 0, none⟩ (.int .i64 a)).setCell ⟨g, 1, none⟩ (.int .i64 b)) (some g) := by
  have h1 := turned_set (p := ⟨g, 0, none⟩) (turned_refl wr (some g)) (.inl rfl) (.int .i64 a)
  have h2 := turned_set (p := ⟨g, 1, none⟩) h1 (.inl rfl) (.int .i64 b)
  obtain ⟨l, q0, q1, q2, q3, f⟩ := h
  refine ⟨⟨by simp; exact l, ?_, ?_, ?_, ?_, fun j => by simp [f]⟩, h2⟩
  all_goals (simp [go_sem, q0, q1, q2, q3]; done)

theorem CBx.put1 {wr : World} {g : Nat} {r0 r1 : Int × Int} (h : CBx wr g r0 r1) (a b : Int) : CBx ((wr.setCell ⟨g, 2, none⟩ (.int .i64 a)).setCell ⟨g, 3, none⟩ (.int .i64 b)) g r0 (a, b) ∧ wr.grownBy ((wr.setCell ⟨g, 2, none⟩ (.int .i64 a)).setCell ⟨g, 3, none⟩ (.int .i64 b)) (some g) := by
  have h1 := turned_set (p := ⟨g, 2, none⟩) (turned_refl wr (some g)) (.inl rfl) (.int .i64 a)
  have h2 := turned_set (p := ⟨g, 3, none⟩) h1 (.inl rfl) (.int .i64 b)
  obtain ⟨l, q0, q1, q2, q3, f⟩ := h
  refine ⟨⟨by simp; exact l, ?_, ?_, ?_, ?_, fun j => by simp [f]⟩, h2⟩
  all_goals (simp [go_sem, q0, q1, q2, q3]; done)

theorem RM.box' {wr w' : World} {vs vo : Value} {r0 r1 : Int × Int} (h : RM w v1 v2 wr vs vo s) (hb : CBx w' (w.heap.size + 1) r0 r1) (hg : wr.grownBy w' (some (w.heap.size + 1))) : RM w v1 v2 w' vs vo { s with c0 := r0, c1 := r1 } := by
  have n0 : some w.heap.size ≠ some (w.heap.size + 1) := by intro e; injection e with e; omega
  have n2 : some (w.heap.size + 1 + 1) ≠ some (w.heap.size + 1) := by intro e; injection e with e; omega
  exact ⟨h.bel.grown hg h.bel.size (fun k hk => by injection hk with hk; omega), hg.cell h.k0 n0, hg.cell h.k1 n0, hb, h.res.keep (hg.block _ h.res.lt n2) hg.size, h.own.kept hg (own_ne h.own (by omega)), h.ono.kept hg (own_ne h.ono (by omega)), h.ne⟩

set_option maxHeartbeats 4000000 in
theorem rop_store0 (h0 : 1 ≤ s.st.length) : Rop w v1 v2 x0 N1 T1 T1 5 0 s (stepS 5 0 (v1, v2) s) := by
  intro K2 K3 Q' A n cs Z vo act wr hn hZ h8 hfr HRM hK2
  obtain ⟨z1, z2, z3, z4, z5, z6⟩ := top_nums hZ.out (by rw [← hn.out]; exact h0) h8 (HRM.out.shape hn.out)
  obtain ⟨g, rfl, hgl, hgf, ⟨t0, t1⟩, _⟩ := HRM.out.tops hn.out (by rw [← hn.out]; exact h0)
  have hst : Hid (s.st.take (n - 1) = cutV s.st 1) := hid (by unfold cutV; rw [hn.out])
  have k0 := HRM.out.box.q0
  have k1 := HRM.out.box.q1
  have kf := HRM.out.box.f
  have HP := hid (HRM.out.box.put0 (topV s.st 1).1 (topV s.st 1).2)
  have HC := hid ((HRM.out.box' HP.out.1 HP.out.2).cut' hn.out (n - 1) (by omega))
  obtain ⟨u, rfl⟩ := hfr.open_
  clear hfr
  conv => arg 2; whnf
  go_wp2_with fail
  exact NXr.mk ⟨rfl, rfl, rfl, rfl, rfl, rfl, rfl, rfl, rfl, rfl, rfl, rfl, rfl⟩ (hid (HC.out.to hst.out rfl rfl rfl))

set_option maxHeartbeats 4000000 in
theorem rop_store1 (h0 : 1 ≤ s.st.length) : Rop w v1 v2 x0 N1 T1 T1 5 1 s (stepS 5 1 (v1, v2) s) := by
  intro K2 K3 Q' A n cs Z vo act wr hn hZ h8 hfr HRM hK2
  obtain ⟨z1, z2, z3, z4, z5, z6⟩ := top_nums hZ.out (by rw [← hn.out]; exact h0) h8 (HRM.out.shape hn.out)
  obtain ⟨g, rfl, hgl, hgf, ⟨t0, t1⟩, _⟩ := HRM.out.tops hn.out (by rw [← hn.out]; exact h0)
  have hst : Hid (s.st.take (n - 1) = cutV s.st 1) := hid (by unfold cutV; rw [hn.out])
  have k0 := HRM.out.box.q2
  have k1 := HRM.out.box.q3
  have kf := HRM.out.box.f
  have HP := hid (HRM.out.box.put1 (topV s.st 1).1 (topV s.st 1).2)
  have HC := hid ((HRM.out.box' HP.out.1 HP.out.2).cut' hn.out (n - 1) (by omega))
  obtain ⟨u, rfl⟩ := hfr.open_
  clear hfr
  conv => arg 2; whnf
  go_wp2_with fail
  exact NXr.mk ⟨rfl, rfl, rfl, rfl, rfl, rfl, rfl, rfl, rfl, rfl, rfl, rfl, rfl⟩ (hid (HC.out.to hst.out rfl rfl rfl))

set_option maxHeartbeats 4000000 in
theorem rop_emit (h0 : 1 ≤ s.st.length) (ho8 : s.out.length ≤ 100) : Rop w v1 v2 x0 N1 T1 T1 14 a s (stepS 14 a (v1, v2) s) := by
  intro K2 K3 Q' A n cs Z vo act wr hn hZ h8 hfr HRM hK2
  obtain ⟨z1, z2, z3, z4, z5, z6⟩ := top_nums hZ.out (by rw [← hn.out]; exact h0) h8 (HRM.out.shape hn.out)
  obtain ⟨g, rfl, hgl, hgf, ⟨t0, t1⟩, _⟩ := HRM.out.tops hn.out (by rw [← hn.out]; exact h0)
  have hst : Hid (s.st.take (n - 1) = cutV s.st 1) := hid (by unfold cutV; rw [hn.out])
  obtain ⟨i0, hi, hz0, hz1, hz2⟩ := info_parts valInfo
  obtain ⟨Ao, co, rfl⟩ := own_form HRM.out.ono
  obtain ⟨m, hm⟩ : ∃ m, s.out.length = m := ⟨_, rfl⟩
  rw [hm] at HRM hfr ho8
  have HMM := hid hm
  clear hm
  have hbs : w.heap.size + 1 + 1 + 1 ≤ (wr.alloc (.cells #[.int .i64 (topV s.st 1).1, .int .i64 (topV s.st 1).2] 31)).heap.size := by have := HRM.out.base; rw [World.size_alloc]; omega
  have HA := hid (HRM.out.alloc (.cells #[.int .i64 (topV s.st 1).1, .int .i64 (topV s.st 1).2] 31))
  have HO : Hid ((wr.alloc (.cells #[.int .i64 (topV s.st 1).1, .int .i64 (topV s.st 1).2] 31)).ownsRow (w.heap.size + 1 + 1 + 1) 31 2 (.slice Ao m co) m (insCells s.out)) := hid (by have := HA.out.ono; rw [HMM.out] at this; exact this)
  have HC := one_val wr (topV s.st 1).1 (topV s.st 1).2 31
  obtain ⟨u, rfl⟩ := hfr.open_
  clear hfr
  conv => arg 2; whnf
  go_wp2_with (at_builtin; refine wpList_append_blk rfl _ _ 77 rfl (w.heap.size + 1 + 1 + 1) 31 i0 (.agg #[.int .i64 0, .int .i64 0]) 2 16 Tryz.underlying77 hi hz0 hz1 hz2 rfl (by decide) (.slice Ao m co) m (insCells s.out) rfl HO.out ⟨wr.heap.size, 0, none⟩ 1 1 [.int .i64 (topV s.st 1).1, .int .i64 (topV s.st 1).2] rfl rfl HC.out (one_valc _ _) (by unfold maxLen; omega) (by omega) hbs ?_; intro v' w5 hown5 hg5 hb5; obtain ⟨A', c', rfl⟩ := own_form hown5; have HM5 := hid ((HA.out.out1 HMM.out hown5 hg5 hb5).cut' hn.out (n - 1) (by omega)); clear hown5 hg5 hb5)
  exact NXr.mk ⟨rfl, rfl, rfl, rfl, rfl, rfl, rfl, rfl, rfl, rfl, rfl, rfl, rfl⟩ (hid (HM5.out.to hst.out rfl rfl rfl))

set_option maxHeartbeats 4000000 in
theorem rop_jmp (hw3 : wrap64 (T1 + a) = T1 + a) : Rop w v1 v2 x0 N1 T1 (T1 + a) 16 a s (stepS 16 a (v1, v2) s) := by
  intro K2 K3 Q' A n cs Z vo act wr hn hZ h8 hfr HRM hK2
  obtain ⟨u, rfl⟩ := hfr.open_
  clear hfr
  conv => arg 2; whnf
  go_wp2_with fail
  exact NXr.mk ⟨rfl, rfl, rfl, rfl, rfl, rfl, rfl, rfl, rfl, by first | rfl | exact congrArg (Value.int .i64) hw3, rfl, rfl, rfl⟩ (hid (HRM.out.to rfl rfl rfl rfl))

set_option maxHeartbeats 4000000 in
theorem rop_jz_far (h0 : 1 ≤ s.st.length) (hz : topV s.st 1 = (0, 0)) (hw3 : wrap64 (T1 + a) = T1 + a) : Rop w v1 v2 x0 N1 T1 (T1 + a) 15 a s (stepS 15 a (v1, v2) s) := by
  intro K2 K3 Q' A n cs Z vo act wr hn hZ h8 hfr HRM hK2
  obtain ⟨z1, z2, z3, z4, z5, z6⟩ := top_nums hZ.out (by rw [← hn.out]; exact h0) h8 (HRM.out.shape hn.out)
  obtain ⟨g, rfl, hgl, hgf, ⟨t0, t1⟩, _⟩ := HRM.out.tops hn.out (by rw [← hn.out]; exact h0)
  have hst : Hid (s.st.take (n - 1) = cutV s.st 1) := hid (by unfold cutV; rw [hn.out])
  have HC := hid (HRM.out.cut' hn.out (n - 1) (by omega))
  obtain ⟨x, y, hxy⟩ := pair_of (p := topV s.st 1)
  rw [hxy] at t0 t1 hz
  simp only at t0 t1
  have he : ∀ w : World, (binOp .eql 31 (val x y) (val 0 0)).run Tryz.prog w = .ok (.bool true) w := fun w => by
    rw [eql_val]
    congr 2
    by_cases h1 : x = 0 <;> by_cases h2 : y = 0 <;> simp [h1, h2] at hz ⊢
  clear hz hxy
  obtain ⟨u, rfl⟩ := hfr.open_
  clear hfr
  conv => arg 2; whnf
  go_wp2_with fail
  exact NXr.mk ⟨rfl, rfl, rfl, rfl, rfl, rfl, rfl, rfl, rfl, by first | rfl | exact congrArg (Value.int .i64) hw3, rfl, rfl, rfl⟩ (hid (HC.out.to hst.out rfl rfl rfl))

set_option maxHeartbeats 4000000 in
theorem rop_jz_on (h0 : 1 ≤ s.st.length) (hz : ¬ topV s.st 1 = (0, 0)) (hw3 : wrap64 (T1 + a) = T1 + a) : Rop w v1 v2 x0 N1 T1 T1 15 a s (stepS 15 a (v1, v2) s) := by
  intro K2 K3 Q' A n cs Z vo act wr hn hZ h8 hfr HRM hK2
  obtain ⟨z1, z2, z3, z4, z5, z6⟩ := top_nums hZ.out (by rw [← hn.out]; exact h0) h8 (HRM.out.shape hn.out)
  obtain ⟨g, rfl, hgl, hgf, ⟨t0, t1⟩, _⟩ := HRM.out.tops hn.out (by rw [← hn.out]; exact h0)
  have hst : Hid (s.st.take (n - 1) = cutV s.st 1) := hid (by unfold cutV; rw [hn.out])
  have HC := hid (HRM.out.cut' hn.out (n - 1) (by omega))
  obtain ⟨x, y, hxy⟩ := pair_of (p := topV s.st 1)
  rw [hxy] at t0 t1 hz
  simp only at t0 t1
  have he : ∀ w : World, (binOp .eql 31 (val x y) (val 0 0)).run Tryz.prog w = .ok (.bool false) w := fun w => by
    rw [eql_val]
    congr 2
    by_cases h1 : x = 0 <;> by_cases h2 : y = 0 <;> simp [h1, h2] at hz ⊢
  clear hz hxy
  obtain ⟨u, rfl⟩ := hfr.open_
  clear hfr
  conv => arg 2; whnf
  go_wp2_with fail
  exact NXr.mk ⟨rfl, rfl, rfl, rfl, rfl, rfl, rfl, rfl, rfl, by first | rfl | exact congrArg (Value.int .i64) hw3, rfl, rfl, rfl⟩ (hid (HC.out.to hst.out rfl rfl rfl))

end

end Go.Proofs.YtfhlpbjdcdagjaaGreatDoor
