/- Layer 6, vm: the document's Run: its contract. -/
import Derived.Test.YtfhlpbjdcdagjaaGreatDoorRunD
import Derived.Test.YtfhlpbjdcdagjaaGreatDoorRunE
import Derived.Test.YtfhlpbjdcdagjaaGreatDoorRunG
import Derived.Deep.LoopGhost
import Derived.Deep.DeepCutAuto
import Derived.Deep.CutBlock
import Derived.Deep.QuietTactic
import Derived.BigQuiet
import Derived.BigRegion
namespace Go.Proofs.YtfhlpbjdcdagjaaGreatDoor
open Go.RowKit Go.Lib
set_option linter.unusedVariables false
set_option maxRecDepth 100000

/-- What the document's Run answers. -/
def RunPost (w : World) (F : VmS) (e : Ending) (w' : World) : Prop :=
  ∃ A c, e = .returned (.tuple #[.slice A F.out.length c, .agg #[.int .i64 F.c0.1, .int .i64 F.c0.2, .int .i64 F.c1.1, .int .i64 F.c1.2], .int .i64 F.n]) ∧ w'.ownsRow (w.heap.size + 1 + 1 + 1) 31 2 (.slice A F.out.length c) F.out.length (insCells F.out) ∧ Below w.heap.size w w'

/-- A round's operation, whatever it is: it goes on as it should. -/
theorem rop_any (w : World) (v1 v2 : Int) (x0 : Value) (l : List (Int × Int)) (F : VmS) (gk t : Nat) (T T1 N N1 o a : Int) (s : VmS) (hf : fitsL l = true) (HT : Hid ((t : Int) = T)) (HN : Hid ((s.n : Int) = N)) (HS : Hid (t ≤ 100 ∧ s.n ≤ t)) (HLT : Hid (t < l.length)) (hi : Hid (rightI (o, a) = true))
    (HNX : Hid (VmA l 0 (nxt t o a s) (stepS o a (v1, v2) s))) (HFN : Hid (fin l (v1, v2) (nxt t o a s) (stepS o a (v1, v2) s) = F)) (hgk : l.length - t ≤ gk) (hT1 : T1 = T + 1) (hN1 : N1 = N + 1) (h0 : o ≠ 0) (htk : tkI o ≤ s.st.length) (ho8 : s.out.length ≤ 100) (hr : VmR s) :
    ∃ T2, Rop w v1 v2 x0 N1 T1 T2 o a s (stepS o a (v1, v2) s) ∧ ∀ act wr, NXr w v1 v2 x0 N1 T2 (stepS o a (v1, v2) s) act wr → ∃ m, m < gk ∧ RIr w v1 v2 x0 l F m act wr := by
  subst hT1; subst hN1
  obtain ⟨b0, b1, b2, b3⟩ := rightI_bounds hi.out
  simp only at b0 b1 b2 b3
  have h1 : 1 ≤ tkI o → 1 ≤ s.st.length := fun q => by omega
  have h2 : 2 ≤ tkI o → 2 ≤ s.st.length := fun q => by omega
  have r1 := rg_top hr.st 1
  have r2 := rg_top hr.st 2
  by_cases hj : o = 16 ∨ (o = 15 ∧ topV s.st 1 = (0, 0))
  · obtain ⟨a0, a1⟩ := jump_small hi.out (by omega)
    refine ⟨T + 1 + a, ?_, fun act wr hx => RIr.next HT HN HS HLT hf hi HNX HFN (nxt_far HT hj a0) hx hgk⟩
    have hw := wrap_jump HT.out (Nat.le_trans HS.out.1 (by decide)) a0 a1
    rcases hj with rfl | ⟨rfl, hz⟩
    · exact rop_jmp hw
    · exact rop_jz_far (h1 (by decide)) hz hw
  · refine ⟨T + 1, ?_, fun act wr hx => RIr.next HT HN HS HLT hf hi HNX HFN (nxt_on HT hj) hx hgk⟩
    have hc : o = 15 ∨ o = 1 ∨ o = 2 ∨ o = 3 ∨ o = 4 ∨ o = 5 ∨ o = 9 ∨ o = 10 ∨ o = 13 ∨ o = 14 ∨ o = 11 ∨ o = 12 ∨ o = 6 ∨ o = 7 ∨ o = 8 ∨ o = 17 := by omega
    have ha : o = 4 ∨ o = 5 → a = 0 ∨ a = 1 := by
      intro q
      have hi' := hi.out
      unfold rightI at hi'
      simp only [Bool.and_eq_true, decide_eq_true_eq] at hi'
      have l0 : loI o = 0 := by unfold loI; rw [if_neg (by omega), if_neg (by omega)]
      have l1 : hiI o = 1 := by unfold hiI; rw [if_neg (by omega), if_pos (by omega)]
      omega
    rcases hc with rfl | rfl | rfl | rfl | rfl | rfl | rfl | rfl | rfl | rfl | rfl | rfl | rfl | rfl | rfl | rfl
    · obtain ⟨a0, a1⟩ := jump_small hi.out (.inl rfl)
      exact rop_jz_on (h1 (by decide)) (fun q => hj (.inr ⟨rfl, q⟩)) (wrap_jump HT.out (Nat.le_trans HS.out.1 (by decide)) a0 a1)
    · exact rop_push
    · exact rop_pushi
    · exact rop_in
    · rcases ha (.inl rfl) with rfl | rfl
      · exact rop_load0
      · exact rop_load1
    · rcases ha (.inr rfl) with rfl | rfl
      · exact rop_store0 (h1 (by decide))
      · exact rop_store1 (h1 (by decide))
    · exact rop_conj (h1 (by decide)) r1
    · exact rop_turn (h1 (by decide)) r1
    · exact rop_drop (h1 (by decide))
    · exact rop_emit (h1 (by decide)) ho8
    · exact rop_dup (h1 (by decide))
    · exact rop_swap (h2 (by decide))
    · exact rop_add (h2 (by decide))
    · exact rop_sub (h2 (by decide))
    · exact rop_mul (h2 (by decide))
    · exact rop_lt (h2 (by decide)) r1 r2

theorem runpost {w wr w' : World} {v1 v2 : Int} {vs : Value} {F : VmS} {Ao : Option Addr} {co : Nat} {N : Int} (h : Hid (RM w v1 v2 wr vs (.slice Ao F.out.length co) F)) (hn : Hid ((F.n : Int) = N)) (hg : wr.grownBy w' (some (w.heap.size + 1 + 1))) :
    RunPost w F (.returned (.tuple #[.slice Ao F.out.length co, .agg #[.int .i64 F.c0.1, .int .i64 F.c0.2, .int .i64 F.c1.1, .int .i64 F.c1.2], .int .i64 N])) w' :=
  ⟨Ao, co, by rw [hn.out], h.out.ono.kept hg (own_ne h.out.ono (by omega)), h.out.bel.grown hg h.out.bel.size (fun k hk => by injection hk with hk; omega)⟩

set_option maxHeartbeats 4000000 in
theorem refrun_any (v : Value) (l : List (Int × Int)) (hf : fitsL l = true) (hg : Good l) (x y a b c d : Int) (hx : Rgt (x, y)) (hc0 : Rgt (a, b)) (hc1 : Rgt (c, d)) (w : World) (hv : SlV w w.heap.size v l) (F : VmS) (hF : Hid (runS l (x, y) ⟨[], [], (a, b), (c, d), 0⟩ = F)) :
    Calls Tryz.prog 33 #[v, val x y, .agg #[.int .i64 a, .int .i64 b, .int .i64 c, .int .i64 d]] w (RunPost w F) := by
  have HR := hid (And.intro hf (And.intro hg hx))
  obtain ⟨A0, cc, rfl, hcc, hA⟩ := hv
  have HA := hid hA
  obtain ⟨W, hW, HM⟩ := run_start w x y a b c d 31 32
  have HVA : Hid (VmA l 0 0 ⟨[], [], (a, b), (c, d), 0⟩) := hid (VmA.start (s := ⟨[], [], (a, b), (c, d), 0⟩) ⟨by simp, by simp, hc0, hc1⟩)
  have HF0 : Hid (fin l (x, y) 0 ⟨[], [], (a, b), (c, d), 0⟩ = F) := hF
  clear hf hg hx hc0 hc1 hA hF
  go_enter Tryz.func33, Tryz.ntmps33
  go_wp2_with fail
  clear hW
  refine wp_loop_ghost_k (RIr w x y (.slice A0 l.length cc) l F) 200 ⟨0, 0, 0, _, _, _, _, _, _, ⟨rfl, rfl, rfl, rfl, rfl, rfl, rfl, rfl, rfl, rfl, rfl, rfl, rfl⟩, hid rfl, hid rfl, hid ⟨Nat.zero_le _, Nat.zero_le _⟩, HVA, HF0, HM, by have := ((fitsL_iff l).1 HR.out.1).1; omega⟩ ?_
  clear HVA HF0 HM
  intro gk act wr hinv J K2 hJ hK
  obtain ⟨t, T, N, s, vs, vo, x13, x14, x15, hfr, HT, HN, HS, HVA, HFF, HRM, hgk⟩ := hinv
  by_cases hlt : t < l.length
  · obtain ⟨b1, o1, rfl, hb1, hcell⟩ := HA.out (by omega)
    obtain ⟨ca, cb⟩ := hcell t hlt
    obtain ⟨o, ar, hoa⟩ := pair_of (p := l.getD t (0, 0))
    rw [hoa] at ca cb
    simp only at ca cb
    have HO : Hid (opAt l t = o ∧ arAt l t = ar) := hid (by unfold opAt arAt; rw [hoa]; exact ⟨rfl, rfl⟩)
    have HIR : Hid (rightI (o, ar) = true) := hid (right_at HR.out.1 hlt hoa)
    have ca' := (HRM.out.bel.cell (p := ⟨b1, o1 + t * 2, none⟩) hb1).trans ca
    have cb' := (HRM.out.bel.cell (p := ⟨b1, o1 + t * 2 + 1, none⟩) hb1).trans cb
    obtain ⟨A, cs, rfl⟩ := own_form HRM.out.own
    have hw1 := wrap_succ HT.out (Nat.le_trans HS.out.1 (by decide))
    have hw2 := wrap_succ HN.out (Nat.le_trans HS.out.2 (Nat.le_trans HS.out.1 (by decide)))
    obtain ⟨hT0, hT1, hT2, hT3⟩ := at_place HT.out hlt
    have HLT := hid hlt
    obtain ⟨u, rfl⟩ := hfr.open_
    clear hfr ca cb hcell hoa hlt
    go_upto_region 6 with fail
    go_quiet (fail)
    have HRM2 := hid (HRM.out.below (below_drewN' (Below.refl _ _) nq))
    generalize wr.drewN nq = wr2 at HRM2 ⊢
    clear ca' cb' HRM
    have hsl : s.st.length ≤ 100 := by have := (HVA.out.fine HR.out.2.1 HLT.out).2.1; omega
    by_cases h0 : o = 0
    · subst h0
      have hfin := fin_halt (v := (x, y)) (s := s) HLT.out HO.out.1
      rw [HFF.out] at hfin
      have HFI := hid hfin
      clear hfin
      have HNF : Hid ((F.n : Int) = N + 1) := hid (by rw [HFI.out]; have := HN.out; show ((s.n + 1 : Nat) : Int) = N + 1; omega)
      have HRF : Hid (RM w x y wr2 (.slice A s.st.length cs) vo F) := hid (by rw [HFI.out]; exact HRM2.out.to rfl rfl rfl rfl)
      have HFE := hid HFI.out
      obtain ⟨Ao, co, rfl⟩ := own_form HRM2.out.ono
      have q0 := HRM2.out.box.q0; have q1 := HRM2.out.box.q1; have q2 := HRM2.out.box.q2; have q3 := HRM2.out.box.q3
      have r0 := HRM2.out.res.q0; have r1 := HRM2.out.res.q1; have r2 := HRM2.out.res.q2; have r3 := HRM2.out.res.q3
      have rf := HRM2.out.res.f
      have rl := HRM2.out.res.lt
      simp only at r0 r1 r2 r3
      obtain rfl : F = { s with n := s.n + 1 } := HFE.out
      clear HFI HFE
      go_wp2_with fail
      go_region_law (fail)
      all_goals
        go_wp2_with fail
        refine bodyPost_ret (v := .tuple #[.slice Ao s.out.length co, .agg #[.int .i64 s.c0.1, .int .i64 s.c0.2, .int .i64 s.c1.1, .int .i64 s.c1.2], .int .i64 (N + 1)]) (by simp [results, Tryz.results33, go_sem, r0, r1, r2, r3]) rfl ?_
        exact runpost HRF HNF (turned_drew (HRF.out.res.put s.c0.1 s.c0.2 s.c1.1 s.c1.2).2)
    · have e0 : (o == 0) = false := by simpa using h0
      obtain ⟨T2, hrop, hnx⟩ := rop_any w x y (.slice (some ⟨b1, o1, none⟩) l.length cc) l F gk t T (wrap64 (T + 1)) N (wrap64 (N + 1)) o ar s HR.out.1 HT HN HS HLT HIR (hid (by have := HVA.out.next HR.out.2.1 HR.out.1 HR.out.2.2 HLT.out (by rw [HO.out.1]; exact h0); rw [HO.out.1, HO.out.2] at this; exact this)) (hid (by rw [← HFF.out, fin_go HLT.out (by rw [HO.out.1]; exact h0), HO.out.1, HO.out.2])) hgk hw1 hw2 h0 (by have := (HVA.out.fine HR.out.2.1 HLT.out).1; rw [HO.out.1] at this; exact this) (by have := (HVA.out.fine HR.out.2.1 HLT.out).2.2.em; omega) HVA.out.r
      have HROP := hid hrop
      have HNXR := hid hnx
      have HK2 : Hid (∀ a' w', NXr w x y (.slice (some ⟨b1, o1, none⟩) l.length cc) (wrap64 (N + 1)) T2 (stepS o ar (x, y) s) a' w' → K2 a' w') := hid (fun a' w' h => by
        obtain ⟨m, hm, hI⟩ := HNXR.out a' w' h
        exact hK a' w' (Handed.intro m hm (hJ _ _ _ hI)))
      clear hrop hnx hw1 hw2 hJ hK
      go_upto_region 10 with fail
      iterate 14 go_step
      refine HROP.out K2 _ _ A s.st.length cs _ vo _ wr2 (hid rfl) (hid rfl) (by omega) ?_ HRM2 HK2.out
      exact ⟨rfl, rfl, rfl, rfl, rfl, rfl, rfl, rfl, rfl, rfl, rfl, rfl, rfl⟩
  · have hln := Nat.le_of_not_lt hlt
    have hT4 := at_end HT.out hln
    obtain rfl : s = F := by rw [← HFF.out, fin_end hln]
    have HNF : Hid ((s.n : Int) = N) := HN
    have HRF := HRM
    obtain ⟨u, rfl⟩ := hfr.open_
    clear hfr
    obtain ⟨Ao, co, rfl⟩ := own_form HRM.out.ono
    have q0 := HRM.out.box.q0; have q1 := HRM.out.box.q1; have q2 := HRM.out.box.q2; have q3 := HRM.out.box.q3
    have r0 := HRM.out.res.q0; have r1 := HRM.out.res.q1; have r2 := HRM.out.res.q2; have r3 := HRM.out.res.q3
    have rf := HRM.out.res.f
    have rl := HRM.out.res.lt
    simp only at r0 r1 r2 r3
    go_wp2_with fail
    go_region_law (fail)
    all_goals
      go_wp2_with fail
      refine bodyPost_ret (v := .tuple #[.slice Ao s.out.length co, .agg #[.int .i64 s.c0.1, .int .i64 s.c0.2, .int .i64 s.c1.1, .int .i64 s.c1.2], .int .i64 (N)]) (by simp [results, Tryz.results33, go_sem, r0, r1, r2, r3]) rfl ?_
      exact runpost HRF HNF (turned_drew (HRF.out.res.put s.c0.1 s.c0.2 s.c1.1 s.c1.2).2)

end Go.Proofs.YtfhlpbjdcdagjaaGreatDoor
