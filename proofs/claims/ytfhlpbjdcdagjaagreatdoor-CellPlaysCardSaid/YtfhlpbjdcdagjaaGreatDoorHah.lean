/- Layer 6, vm: run. -/
import Derived.Test.YtfhlpbjdcdagjaaGreatDoorHag
import Derived.Test.YtfhlpbjdcdagjaaGreatDoorHaa
import Derived.Maps.OwnSet
import Derived.Test.YtfhlpbjdcdagjaaGreatDoorHab
namespace Go.Proofs.YtfhlpbjdcdagjaaGreatDoor
open Go.RowKit Go.Lib
set_option linter.unusedVariables false
set_option maxRecDepth 100000

/-- A scope with one label that is jumped back to. -/
theorem wp_scope_one {P : Program} {a : Act} {w : World} {Q : Exit → Act → World → Prop} {c r : Code} (l : Nat) (J : Act → World → Prop) (μ : Act → World → Nat) (hf : findLabel c l = some (Code.skip.seq r))
    (first : (∀ a w, J a w → r.wp P (Exit.jump l J Q) a w) → c.wp P (Exit.jump l J Q) a w)
    (pass : ∀ a w, J a w → r.wp P (Exit.jump l (fun a' w' => J a' w' ∧ μ a' w' < μ a w) Q) a w) : (Code.scope c).wp P Q a w :=
  wp_scope_jumps l J μ hf (first fun a w hJ => wp_mono (pass a w hJ) fun e a' w' h => by
    cases e with
    | goto l => exact ⟨h.1, h.2.1⟩
    | _ => exact h) fun a w hJ => wp_seq (wp_skip (pass a w hJ))

/-- The frame at the label. -/
structure RunFrame (b g : Nat) (T : Int) (a : Act) : Prop where
  size : a.tmps.size = 62
  defers : a.defers = []
  t0 : a.tmps.getD 0 undef = .pointer (some ⟨b, 0, none⟩)
  t3 : a.tmps.getD 3 undef = .pointer (some ⟨g, 0, none⟩)
  t4 : a.tmps.getD 4 undef = .int .i64 T

theorem RunFrame.open_ {b g : Nat} {T : Int} {a : Act} (h : RunFrame b g T a) : ∃ u : Nat → Value, a = ⟨#[.pointer (some ⟨b, 0, none⟩), u 1, u 2, .pointer (some ⟨g, 0, none⟩), .int .i64 T, u 5, u 6, u 7, u 8, u 9, u 10, u 11, u 12, u 13, u 14, u 15, u 16, u 17, u 18, u 19, u 20, u 21, u 22, u 23, u 24, u 25, u 26, u 27, u 28, u 29, u 30, u 31, u 32, u 33, u 34, u 35, u 36, u 37, u 38, u 39, u 40, u 41, u 42, u 43, u 44, u 45, u 46, u 47, u 48, u 49, u 50, u 51, u 52, u 53, u 54, u 55, u 56, u 57, u 58, u 59, u 60, u 61], []⟩ := by
  obtain ⟨hn, hd, h0, h3, h4⟩ := h
  obtain ⟨u, hu⟩ : ∃ u : Nat → Value, u = fun k => a.tmps.getD k undef := ⟨_, rfl⟩
  have ha : a = ⟨#[u 0, u 1, u 2, u 3, u 4, u 5, u 6, u 7, u 8, u 9, u 10, u 11, u 12, u 13, u 14, u 15, u 16, u 17, u 18, u 19, u 20, u 21, u 22, u 23, u 24, u 25, u 26, u 27, u 28, u 29, u 30, u 31, u 32, u 33, u 34, u 35, u 36, u 37, u 38, u 39, u 40, u 41, u 42, u 43, u 44, u 45, u 46, u 47, u 48, u 49, u 50, u 51, u 52, u 53, u 54, u 55, u 56, u 57, u 58, u 59, u 60, u 61], a.defers⟩ := by
    rw [hu]; exact frame_eq hn
  have e0 : u 0 = _ := (congrFun hu 0).trans h0
  have e3 : u 3 = _ := (congrFun hu 3).trans h3
  have e4 : u 4 = _ := (congrFun hu 4).trans h4
  rw [e0, e3, e4, hd] at ha
  exact ⟨u, ha⟩

theorem wrap_succ {T : Int} {t : Nat} (hT : (t : Int) = T) (h : t ≤ 100000000000) : wrap64 (T + 1) = T + 1 := by unfold wrap64; omega

theorem wrap_jump {T a : Int} {t : Nat} (hT : (t : Int) = T) (h : t ≤ 100000000000) (h0 : 0 ≤ a) (h2 : a ≤ 24) : wrap64 (T + 1 + a) = T + 1 + a := by unfold wrap64; omega

theorem right_at {l : List (Int × Int)} (hf : fitsL l = true) {k : Nat} (hk : k < l.length) {o a : Int} (h : l.getD k (0, 0) = (o, a)) : rightI (o, a) = true := by
  have h2 := ((fitsL_iff l).1 hf).2
  rw [List.getD_eq_getElem?_getD, List.getElem?_eq_getElem hk] at h
  rw [← h]
  exact List.all_eq_true.1 h2 _ (List.getElem_mem hk)

theorem jump_small {o a : Int} (h : rightI (o, a) = true) (ho : o = 15 ∨ o = 16) : 0 ≤ a ∧ a ≤ 24 := by
  unfold rightI at h
  simp only [Bool.and_eq_true, decide_eq_true_eq] at h
  have l0 : loI o = 1 := by unfold loI; rw [if_neg (by omega), if_pos ho]
  have l1 : hiI o = 24 := by unfold hiI; rw [if_neg (by omega), if_neg (by omega), if_pos ho]
  omega

theorem at_place {T : Int} {t n : Nat} (hT : (t : Int) = T) (h : t < n) : 0 ≤ T ∧ T < (n : Int) ∧ T.toNat = t ∧ ¬ (n : Int) ≤ T := by omega

theorem at_end {T : Int} {t n : Nat} (hT : (t : Int) = T) (h : n ≤ t) : (n : Int) ≤ T := by omega

section
variable {W w w' wr : World} {B b : Nat} {vp vs vo : Value} {s : VmS} {fx : List Nat}

/-- The box of an instruction, and a step counted. -/
theorem round_box (h : Mch2 wr B b vp s fx) {N : Int} (hN : (s.n : Int) = N) (o a : Int) (t : TypeId) : ∃ V : World, (wr.setCell ⟨b, 5, none⟩ (.int .i64 (N + 1))).alloc (.cells #[.int .i64 o, .int .i64 a] t) = V ∧
    Hid (Mch2 V B b vp { s with n := s.n + 1 } (wr.heap.size :: fx)) ∧ (V.cell? ⟨wr.heap.size, 0, none⟩ = some (.int .i64 o) ∧ V.cell? ⟨wr.heap.size, 1, none⟩ = some (.int .i64 a)) ∧ wr.heap.size < V.heap.size ∧
    Hid (MP B b vp { s with n := s.n + 1 } fx wr V) ∧ Hid (∀ w' s', MP B b vp s' (wr.heap.size :: fx) V w' → MP B b vp s' fx wr w') := by
  subst hN
  have h1 := h.set (s' := { s with n := s.n + 1 }) 5 (by omega) (.int .i64 (s.n + 1)) rfl rfl (fun _ _ => rfl)
  have h2 := h1.m.more (.cells #[.int .i64 o, .int .i64 a] t)
  rw [World.size_setCell] at h2
  have h3 := h1.trans (h1.m.alloc (.cells #[.int .i64 o, .int .i64 a] t))
  refine ⟨_, rfl, hid h2, ⟨?_, ?_⟩, ?_, hid h3, hid fun w' s' hm => h3.trans hm.less⟩
  · have := World.cell?_alloc_new (wr.setCell ⟨b, 5, none⟩ (.int .i64 (s.n + 1))) #[.int .i64 o, .int .i64 a] t 0
    rw [World.size_setCell] at this
    exact this
  · have := World.cell?_alloc_new (wr.setCell ⟨b, 5, none⟩ (.int .i64 (s.n + 1))) #[.int .i64 o, .int .i64 a] t 1
    rw [World.size_setCell] at this
    exact this
  · rw [World.size_alloc, World.size_setCell]; omega

theorem blk_len (A : Option Addr) (n m c : Nat) : (Value.slice A n c).ownBlock = (Value.slice A m c).ownBlock := by cases A <;> rfl

/-- The box of the input, the stack cut. -/
theorem run_box (h : Mch2 w B b vp s fx) (x y : Int) (t : TypeId) : ∃ A c k, w.cell? ⟨b, 7, none⟩ = some (.slice A k c) ∧ w.frozen? ⟨b, 7, none⟩ = false ∧ k ≤ c ∧ ∃ W : World, (w.setCell ⟨b, 7, none⟩ (.slice A 0 c)).alloc (.cells #[.int .i64 x, .int .i64 y] t) = W ∧
    Hid (Mch2 W B b vp { s with st := [] } (w.heap.size :: fx)) ∧ (W.cell? ⟨w.heap.size, 0, none⟩ = some (.int .i64 x) ∧ W.cell? ⟨w.heap.size, 1, none⟩ = some (.int .i64 y)) ∧
    Hid (∀ w' s', MP B b vp s' (w.heap.size :: fx) W w' → MP B b vp s' fx w w') := by
  obtain ⟨vs, vo, hV, hF⟩ := h
  have hlt := hV.lt
  obtain ⟨A, c, rfl⟩ := own_form hV.own
  have hc : s.st.length ≤ c := by
    rcases hV.own.2 with ⟨e, e2⟩ | ⟨g, cap, cur, e, _, _, h3, _⟩
    · omega
    · injection e with e1 e2 e3; omega
  have ho := own_cut hV.own 0 (by omega)
  have hS := ((hV.set 7 (by omega) (.slice A 0 c)).stack (vs' := .slice A 0 c) (st' := []) (own_kept7 ho hlt) (by rw [blk_len A 0 s.st.length]; exact hV.ne))
  have hM : Mch2 (w.setCell ⟨b, 7, none⟩ (.slice A 0 c)) B b vp { s with st := [] } fx := ⟨.slice A 0 c, vo, hS, fun r hr => by
    obtain ⟨p, q, d, e⟩ := hF r hr
    exact ⟨by rw [World.size_setCell]; exact p, q, by rw [blk_len A 0 s.st.length]; exact d, e⟩⟩
  have hP : MP B b vp { s with st := [] } fx w (w.setCell ⟨b, 7, none⟩ (.slice A 0 c)) := ⟨hM, fun r hr => Below.heap_setCell _ _ _ _ (hF r hr).2.1, (Below.refl B w).setCell hV.le _⟩
  have h2 := hM.more (.cells #[.int .i64 x, .int .i64 y] t)
  rw [World.size_setCell] at h2
  have h3 := hP.trans (hM.alloc (.cells #[.int .i64 x, .int .i64 y] t))
  refine ⟨A, c, s.st.length, hV.cells 7 (by omega), hV.fr 7, hc, _, rfl, hid h2, ⟨?_, ?_⟩, hid fun w' s' hm => h3.trans hm.less⟩
  · have := World.cell?_alloc_new (w.setCell ⟨b, 7, none⟩ (.slice A 0 c)) #[.int .i64 x, .int .i64 y] t 0
    rw [World.size_setCell] at this
    exact this
  · have := World.cell?_alloc_new (w.setCell ⟨b, 7, none⟩ (.slice A 0 c)) #[.int .i64 x, .int .i64 y] t 1
    rw [World.size_setCell] at this
    exact this

/-- At the label: place t is next. -/
def AtLbl (l : List (Int × Int)) (v : Int × Int) (W : World) (B b : Nat) (vp : Value) (fx : List Nat) (m g n0 : Nat) (F : VmS) (a : Act) (wr : World) : Prop :=
  ∃ (t : Nat) (T : Int) (s : VmS), RunFrame b g T a ∧ Hid ((t : Int) = T) ∧ t ≤ 100 ∧ Hid (VmA l m t s) ∧ Hid (fin l v t s = F) ∧ Hid (s.n ≤ n0 + t) ∧ Hid (MP B b vp s (g :: fx) W wr)

theorem nxt_small {l : List (Int × Int)} (hf : fitsL l = true) {t : Nat} (ht : t < l.length) {o a : Int} (hi : rightI (o, a) = true) (s : VmS) : nxt t o a s ≤ 100 := by
  have h24 := ((fitsL_iff l).1 hf).1
  unfold nxt
  split
  · next h =>
    obtain ⟨a0, a1⟩ := jump_small hi (by omega)
    omega
  · omega

/-- From round to round. -/
theorem at_next {l : List (Int × Int)} {v : Int × Int} {m g n0 t : Nat} {F s' : VmS} {T T' o a : Int} {act : Act} (HT : Hid ((t : Int) = T)) (HLT : Hid (t < l.length)) (hf : fitsL l = true) (hi : Hid (rightI (o, a) = true)) (HNN : Hid (s'.n ≤ n0 + t))
    (HNX : Hid (VmA l m (nxt t o a s') (stepS o a v s'))) (HFN : Hid (fin l v (nxt t o a s') (stepS o a v s') = F)) (hT' : ((nxt t o a s' : Nat) : Int) = T') (hfr : RunFrame b g T' act) (hm : Hid (MP B b vp (stepS o a v s') (g :: fx) W wr)) :
    AtLbl l v W B b vp fx m g n0 F act wr ∧ l.length - T'.toNat < l.length - T.toNat := by
  have hg := nxt_gt t o a s'
  have h1 := HT.out
  have h2 := HLT.out
  have h3 := HNN.out
  have h4 := step_n o a v s'
  exact ⟨⟨_, T', _, hfr, hid hT', nxt_small hf h2 hi.out s', HNX, HFN, hid (by omega), hm⟩, by omega⟩

theorem nxt_on {T : Int} {t : Nat} (HT : Hid ((t : Int) = T)) {o a : Int} {s : VmS} (h : ¬ (o = 16 ∨ (o = 15 ∧ topV s.st 1 = (0, 0)))) : ((nxt t o a s : Nat) : Int) = T + 1 := by
  have := HT.out
  unfold nxt; rw [if_neg h]; omega

theorem nxt_far {T : Int} {t : Nat} (HT : Hid ((t : Int) = T)) {o a : Int} {s : VmS} (h : o = 16 ∨ (o = 15 ∧ topV s.st 1 = (0, 0))) (ha : 0 ≤ a) : ((nxt t o a s : Nat) : Int) = T + 1 + a := by
  have := HT.out
  unfold nxt; rw [if_pos h]; omega

theorem step_do {o a : Int} {v : Int × Int} {s : VmS} (h15 : o ≠ 15) (h16 : o ≠ 16) : stepS o a v s = doS o a v { s with n := s.n + 1 } := by
  rcases op_cases o with rfl | rfl | rfl | rfl | rfl | rfl | rfl | rfl | rfl | rfl | rfl | rfl | rfl | ho
  · exact absurd rfl h15
  · exact absurd rfl h16
  all_goals first
    | rfl
    | (rw [step_else ho]
       obtain ⟨_, _, q1, q2, q3, q4, q5, q9, q10, q13, q14, q11, q12⟩ := ho
       unfold doS
       rw [if_neg q1, if_neg q2, if_neg q3, if_neg q4, if_neg q5, if_neg q9, if_neg q10, if_neg q13, if_neg q14, if_neg q11, if_neg q12])

theorem out_small {l : List (Int × Int)} {t m : Nat} {o : Int} {s : VmS} (h : Hid (tkI o ≤ s.st.length ∧ s.st.length ≤ 8 ∧ FineI l t s.st.length (s.out.length - m : Int))) (hm : Hid (m ≤ 900000000)) : s.st.length ≤ 800 ∧ s.out.length ≤ 1000000000 := by
  have := h.out.2.2.em
  have := h.out.2.1
  have := hm.out
  omega

set_option maxHeartbeats 1000000 in
theorem run_any (l : List (Int × Int)) (hf : fitsL l = true) (hg : Good l) (v1 v2 : Int) (hv : Rgt (v1, v2)) (s : VmS) (hr : VmR s) (ho : s.out.length ≤ 900000000) (hn : s.n ≤ 1000000000) (w : World) (hvp : SlV w B vp l) (h : Mch2 w B b vp s fx) :
    Calls Tryz.prog 71 #[.pointer (some ⟨b, 0, none⟩), val v1 v2] w fun e w' => e = .returned (.tuple #[]) ∧ MP B b vp (runS l (v1, v2) s) fx w w' := by
  obtain ⟨A, c, k, m7, f7, hkc, W, hW, HM, ⟨k0, k1⟩, HE⟩ := run_box h v1 v2 31
  obtain ⟨F, hF⟩ : ∃ F, runS l (v1, v2) s = F := ⟨_, rfl⟩
  have HF : Hid (fin l (v1, v2) 0 { s with st := [] } = F) := hid hF
  have HA : Hid (VmA l s.out.length 0 { s with st := [] }) := hid (VmA.start hr)
  have hlb := h.lt2
  have hBb := h.le2
  have HNL := hid hn; have HOL := hid ho; clear hn ho
  rw [hF]
  have HK := hid (And.intro k0 k1)
  clear hF k0 k1
  go_enter Tryz.func71, Tryz.ntmps71
  go_wp2_with fail
  refine wp_scope_one 0 (AtLbl l (v1, v2) W B b vp fx s.out.length w.heap.size s.n F) (fun a _ => l.length - (RowKit.intOf (a.tmps.getD 4 undef)).toNat) rfl ?_ ?_
  · intro H
    go_wp2_with fail
    clear hW
    go_step3
    rename_i hK
    refine hK _ _ (H _ _ ⟨0, 0, _, ⟨rfl, rfl, rfl, rfl, rfl⟩, hid rfl, Nat.zero_le _, HA, HF, hid (Nat.le_add_right _ _), hid HM.out.refl⟩)
  · clear hW m7 f7 HF HA
    have HV := hid hvp
    obtain ⟨A0, cv, rfl, hcv, hA⟩ := hvp
    have HCE := hid hA
    have HR := hid ((And.intro hf (And.intro hg hv)))
    clear hA hf hg
    have HB0 : Hid (Below B w W) := hid (HE.out W _ HM.out.refl).bel
    rintro a wr ⟨t, T, s', hfr, HT, ht, HVA, HFF, HNN, HMP⟩
    obtain ⟨u, rfl⟩ := hfr.open_
    clear hfr
    obtain ⟨vs, vo, hV, _⟩ := HMP.out.m
    have m6 : wr.cell? ⟨b, 6, none⟩ = some (.slice A0 l.length cv) := hV.cells 6 (by decide)
    by_cases hlt : t < l.length
    · obtain ⟨N, hN⟩ : ∃ N : Int, (s'.n : Int) = N := ⟨_, rfl⟩
      have m5 : wr.cell? ⟨b, 5, none⟩ = some (.int .i64 N) := by rw [← hN]; exact hV.cells 5 (by decide)
      have g5 := hV.fr 5
      have hlb' := hV.lt
      clear hV
      obtain ⟨b1, o1, rfl, hb1, hcell⟩ := HCE.out (by omega)
      obtain ⟨ca, cb⟩ := hcell t hlt
      obtain ⟨o, a, hoa⟩ := pair_of (p := l.getD t (0, 0))
      rw [hoa] at ca cb
      simp only at ca cb
      have HO : Hid (opAt l t = o ∧ arAt l t = a) := hid (by unfold opAt arAt; rw [hoa]; exact ⟨rfl, rfl⟩)
      have HIR : Hid (rightI (o, a) = true) := hid (right_at HR.out.1 hlt hoa)
      have HBB := hid (HB0.out.trans HMP.out.bel)
      have ca' := (HBB.out.cell (p := ⟨b1, o1 + t * 2, none⟩) hb1).trans ca
      have cb' := (HBB.out.cell (p := ⟨b1, o1 + t * 2 + 1, none⟩) hb1).trans cb
      clear ca cb hcell hoa
      have hw1 := wrap_succ HT.out (Nat.le_trans ht (by decide))
      have hw2 := wrap_succ hN (Nat.le_trans HNN.out (Nat.le_trans (Nat.add_le_add HNL.out ht) (by decide)))
      obtain ⟨hT0, hT1, hT2, hT3⟩ := at_place HT.out hlt
      have HN := hid hN
      have HLT := hid hlt
      clear hlt
      obtain ⟨V, hVV, HMV, ⟨q0, q1⟩, hVl, HMV0, HEV⟩ := round_box HMP.out.m HN.out o a 88
      have hb1w : b1 < wr.heap.size := Nat.lt_of_lt_of_le hb1 (Nat.le_trans hBb (Nat.le_of_lt hlb'))
      have HQ := hid (And.intro q0 q1)
      clear hN
      by_cases h0 : o = 0
      · subst h0
        go_wp2_with fail
        simp only [Exit.jump]
        refine bodyPost_ret (results_none rfl _ _ _) rfl ?_
        refine ⟨rfl, HE.out _ _ ?_⟩
        rw [← HFF.out, fin_halt HLT.out HO.out.1]
        exact HMP.out.trans HMV0.out
      · have e0 : (o == 0) = false := by simpa using h0
        have HNX := hid (HVA.out.next HR.out.2.1 HR.out.1 HR.out.2.2 HLT.out (by rw [HO.out.1]; exact h0))
        have HFN : Hid (fin l (v1, v2) (nxt t o a s') (stepS o a (v1, v2) s') = F) := hid (by rw [← HFF.out, fin_go HLT.out (by rw [HO.out.1]; exact h0), HO.out.1, HO.out.2])
        rw [HO.out.1, HO.out.2] at HNX
        have HFI := hid (HVA.out.fine HR.out.2.1 HLT.out)
        rw [HO.out.1] at HFI
        have H0 := hid h0
        clear h0
        have hvm : s'.st.length ≤ 800 ∧ s'.out.length ≤ 1000000000 := out_small HFI HOL
        have HVM := hid hvm
        clear hvm
        by_cases h15 : o = 15
        · subst h15
          have htk := HFI.out.1
          have h1 : 0 < s'.st.length := by have : tkI 15 = 1 := rfl; omega
          obtain ⟨x, y, hxy⟩ := pair_of (p := topV s'.st 1)
          have hrx := rg_top HVA.out.r.st 1
          rw [hxy] at hrx
          have HRX := hid hrx
          have HX := hid hxy
          obtain ⟨a0, a1⟩ := jump_small HIR.out (.inl rfl)
          have hw3 := wrap_jump HT.out (Nat.le_trans ht (by decide)) a0 a1
          have HA0 := hid a0
          have H1 := hid h1
          clear hrx hxy a0 a1 htk h1
          clear e0
          go_wp2_with fail
          refine (take_xy HMV.out H1.out HVM.out.1 HX).mono ?_
          rintro e w2 ⟨rfl, hm2⟩
          have HM2 := hid hm2
          clear hm2 q0 q1
          go_wp2_with fail
          obtain ⟨β, hβ⟩ : ∃ β, (decide (into x = 0) && decide (into y = 0)) = β := ⟨_, rfl⟩
          refine (zero_any x y HRX.out.i64.1 HRX.out.i64.2 w2).mono ?_
          rintro e w3 ⟨rfl, hb3⟩
          rw [hβ]
          have HM3 := hid (HM2.out.trans (HM2.out.m.below hb3))
          have q1 : w3.cell? ⟨wr.heap.size, 1, none⟩ = some (.int .i64 a) := (HM3.out.cell (by simp)).trans HQ.out.2
          have hl3 := World.block_lt_of_cell? w3 _ q1
          have HMN : Hid (MP B b (.slice (some ⟨b1, o1, none⟩) l.length cv) (stepS 15 a (v1, v2) s') (w.heap.size :: fx) W w3) := hid (HMP.out.trans (HEV.out _ _ HM3.out))
          clear hb3
          cases β with
          | true =>
            have hz : Hid (topV s'.st 1 = (0, 0)) := hid (by
              rw [Bool.and_eq_true, decide_eq_true_eq, decide_eq_true_eq, HRX.out.1, HRX.out.2] at hβ
              simp only at hβ
              rw [HX.out, hβ.1, hβ.2])
            clear hβ
            have hT' := nxt_far HT (o := 15) (a := a) (s := s') (.inr ⟨rfl, hz.out⟩) HA0.out
            have HT' := hid hT'
            clear hT'
            go_wp2_with fail
            rw [hw3]
            go_step3
            exact ⟨rfl, at_next HT HLT HR.out.1 HIR HNN HNX HFN HT'.out ⟨rfl, rfl, rfl, rfl, rfl⟩ HMN⟩
          | false =>
            have hz : Hid (¬ topV s'.st 1 = (0, 0)) := hid (by
              intro q
              rw [HX.out] at q
              injection q with p1 p2
              subst p1
              subst p2
              rw [into_of 0 (by decide) (by decide)] at hβ
              simp at hβ)
            clear hβ
            have hT' := nxt_on HT (o := 15) (a := a) (s := s') (fun q => by rcases q with q | q; exact absurd q (by decide); exact hz.out q.2)
            have HT' := hid hT'
            clear hT'
            go_wp2_with fail
            go_step3
            exact ⟨rfl, at_next HT HLT HR.out.1 HIR HNN HNX HFN HT'.out ⟨rfl, rfl, rfl, rfl, rfl⟩ HMN⟩
        · have e15 : (o == 15) = false := by simpa using h15
          have H15 := hid h15
          clear h15
          by_cases h16 : o = 16
          · subst h16
            obtain ⟨a0, a1⟩ := jump_small HIR.out (.inr rfl)
            have hw3 := wrap_jump HT.out (Nat.le_trans ht (by decide)) a0 a1
            have hT' := nxt_far HT (o := 16) (a := a) (s := s') (.inl rfl) a0
            have HT' := hid hT'
            have HMN : Hid (MP B b (.slice (some ⟨b1, o1, none⟩) l.length cv) (stepS 16 a (v1, v2) s') (w.heap.size :: fx) W V) := hid (HMP.out.trans HMV0.out)
            clear e0 e15 a0 a1 hT'
            go_wp2_with fail
            go_step3
            exact ⟨rfl, at_next HT HLT HR.out.1 HIR HNN HNX HFN HT'.out ⟨rfl, rfl, rfl, rfl, rfl⟩ HMN⟩
          · have e16 : (o == 16) = false := by simpa using h16
            have H16 := hid h16
            clear h16
            have hT' := nxt_on HT (o := o) (a := a) (s := s') (fun q => by rcases q with q | q; exact H16.out q; exact H15.out q.1)
            have HT' := hid hT'
            clear hT'
            have kk0 : V.cell? ⟨w.heap.size, 0, none⟩ = some (.int .i64 v1) := (HMV0.out.cell (by simp)).trans ((HMP.out.cell (by simp)).trans HK.out.1)
            have kk1 : V.cell? ⟨w.heap.size, 1, none⟩ = some (.int .i64 v2) := (HMV0.out.cell (by simp)).trans ((HMP.out.cell (by simp)).trans HK.out.2)
            go_wp2_with fail
            have HD : Hid (DoIs V B b (.slice (some ⟨b1, o1, none⟩) l.length cv) (wr.heap.size :: w.heap.size :: fx) (doS o a (v1, v2) { s' with n := s'.n + 1 }) o a v1 v2) := hid (do_any o a v1 v2 _ HMV.out HIR.out ⟨H0.out, H15.out, H16.out⟩ HFI.out.1 HVM.out.1 HVM.out.2 ⟨HVA.out.r.st, HVA.out.r.out, HVA.out.r.c0, HVA.out.r.c1⟩)
            refine HD.out.mono ?_
            rintro e w2 ⟨rfl, hm2⟩
            have HMN : Hid (MP B b (.slice (some ⟨b1, o1, none⟩) l.length cv) (stepS o a (v1, v2) s') (w.heap.size :: fx) W w2) := hid (by rw [step_do H15.out H16.out]; exact HMP.out.trans (HEV.out _ _ hm2))
            clear hm2 q0 q1 kk0 kk1
            go_wp2_with fail
            go_step3
            exact ⟨rfl, at_next HT HLT HR.out.1 HIR HNN HNX HFN HT'.out ⟨rfl, rfl, rfl, rfl, rfl⟩ HMN⟩
    · have hln := Nat.le_of_not_lt hlt
      have hT4 := at_end HT.out hln
      go_wp2_with fail
      simp only [Exit.jump]
      refine bodyPost_ret (results_none rfl _ _ _) rfl ?_
      refine ⟨rfl, HE.out _ _ ?_⟩
      rw [← HFF.out, fin_end hln]
      exact HMP.out

end

end Go.Proofs.YtfhlpbjdcdagjaaGreatDoor

namespace Go.Proofs.YtfhlpbjdcdagjaaGreatDoor
open Go.RowKit Go.MapKept
open Go.ChangeMaps (setBlock)
open Go.Maps (Keyed)
set_option linter.unusedVariables false
set_option maxRecDepth 100000

/-- Block b is a map with just these entries, as they were laid. -/
def MapAt (w : World) (b : Nat) (l : List (Value × Value)) : Prop :=
  ∃ es clock, w.heap[b]? = some (.map es clock) ∧ es.toList.map (fun e => (e.key, e.val)) = l

section
variable {w w' : World} {b : Nat} {l : List (Value × Value)}

theorem MapAt.new (w : World) : MapAt (w.alloc (.map #[] 0)) w.heap.size [] := ⟨#[], 0, heap_alloc_new w _, rfl⟩

theorem MapAt.lt (h : MapAt w b l) : b < w.heap.size := by
  obtain ⟨es, c, hb, _⟩ := h
  exact (Array.getElem?_eq_some_iff.1 hb).1

theorem MapAt.keep (h : MapAt w b l) (hk : w'.heap[b]? = w.heap[b]?) : MapAt w' b l := by
  obtain ⟨es, c, hb, hl⟩ := h
  exact ⟨es, c, hk.trans hb, hl⟩

theorem MapAt.below {B : Nat} (h : MapAt w b l) (hb : Below B w w') (hB : b < B) : MapAt w' b l := h.keep (hb.block b hB)

theorem MapAt.setCell (h : MapAt w b l) {a : Addr} (ha : b ≠ a.block) (u : Value) : MapAt (w.setCell a u) b l := h.keep (Below.heap_setCell _ _ _ _ ha)

theorem MapAt.alloc (h : MapAt w b l) (o : Obj) : MapAt (w.alloc o) b l := h.keep (Below.heap_alloc _ _ _ h.lt)

theorem MapAt.drew (h : MapAt w b l) : MapAt w.drew b l := h

variable {P : Program} {k e t : TypeId} {z : Value}

/-- What is looked up is the entry's value, or the zero value. -/
theorem MapAt.look (h : MapAt w b l) (K : Keyed P k) (ht : P.underlying t = some (.map k e)) (hz : (zeroValue e).run P w = .ok z w) (hl : ∀ p ∈ l, ∃ i, keyOf P k p.1 = some i) {key : Value} {kl : Lit} (hkey : keyOf P k key = some kl) :
    (∃ v, (key, v) ∈ l ∧ (Instr.lookup t (.map (some b)) key false).run P w = .ok v w) ∨ ((∀ p ∈ l, p.1 ≠ key) ∧ (Instr.lookup t (.map (some b)) key false).run P w = .ok z w) := by
  obtain ⟨es, c, hb, rfl⟩ := h
  have hes : ∀ x ∈ es.toList, ∃ i, keyOf P k x.key = some i := fun x hx => hl (x.key, x.val) (List.mem_map.2 ⟨x, hx, rfl⟩)
  rcases K.find w hkey es.toList hes with ⟨h1, h2⟩ | ⟨j, e0, h1, h2, h3⟩
  · refine .inr ⟨fun p hp => ?_, by simp [Instr.lookup, run_underlying ht, MapKept.run_getObj_map hb, K.check w _ hkey, h1, hz, Result.andThen]⟩
    obtain ⟨x, hx, rfl⟩ := List.mem_map.1 hp
    exact h2 x hx
  · refine .inl ⟨e0.val, List.mem_map.2 ⟨e0, List.mem_of_getElem? h2, by rw [← h3]⟩, ?_⟩
    simp [Instr.lookup, run_underlying ht, MapKept.run_getObj_map hb, K.check w _ hkey, h1, Result.andThen]

/-- What is new stands behind all others. -/
theorem MapAt.add (h : MapAt w b l) (K : Keyed P k) (ht : P.underlying t = some (.map k e)) (hl : ∀ p ∈ l, ∃ i, keyOf P k p.1 = some i) (hroom : l.length < maxLen) {key val : Value} {kl : Lit} (hkey : keyOf P k key = some kl) (hn : ∀ p ∈ l, p.1 ≠ key) :
    ∃ w', (Instr.mapUpdate t (.map (some b)) key val).run P w = .ok () w' ∧ MapAt w' b (l ++ [(key, val)]) ∧ w.grownBy w' (some b) := by
  obtain ⟨es, c, hb, rfl⟩ := h
  have hes : ∀ x ∈ es.toList, ∃ i, keyOf P k x.key = some i := fun x hx => hl (x.key, x.val) (List.mem_map.2 ⟨x, hx, rfl⟩)
  rcases K.find w hkey es.toList hes with ⟨h1, h2⟩ | ⟨j, e0, h1, h2, h3⟩
  · have hs : es.size < maxLen := by simpa using hroom
    refine ⟨setBlock w b (.map (es.push ⟨key, val, c⟩) (c + 1)), ?_, ⟨_, _, Go.ChangeMaps.heap_setBlock_same hb _, by simp⟩, ⟨rfl, rfl, rfl, by simp [setBlock], fun i _ hi => Go.ChangeMaps.heap_setBlock_other hb _ (fun e => hi (by rw [e]))⟩⟩
    simp [Instr.mapUpdate, run_underlying ht, MapKept.run_getObj_map hb, K.check w false hkey, h1, MapKept.run_setObj_map _ hb, Result.andThen, setBlock]
  · exact absurd h3 (hn (e0.key, e0.val) (List.mem_map.2 ⟨e0, List.mem_of_getElem? h2, rfl⟩))

end

section
variable {P : Program} {w : World} {ops : Array Oper} {rest : List Oper} {o : Oper} {a : Act} {Q : Exit → Act → World → Prop}

/-- An entry of a map's literal, of a key that is new. -/
theorem wpList_insert_add (hg : o.guard = none) (m x v : Operand) (t : TypeId) (hop : o.op = Op.insert t m x v)
    (k e : TypeId) (K : Keyed P k) (ht : P.underlying t = some (.map k e)) (b : Nat) (l : List (Value × Value)) (hm : a.eval m = .map (some b)) (h : MapAt w b l) (hl : ∀ p ∈ l, ∃ i, keyOf P k p.1 = some i) (hroom : l.length < maxLen)
    (key val : Value) (kl : Lit) (hx : a.eval x = key) (hv : a.eval v = val) (hkey : keyOf P k key = some kl) (hn : ∀ p ∈ l, p.1 ≠ key)
    (hK : ∀ w', MapAt w' b (l ++ [(key, val)]) → w.grownBy w' (some b) → wpList P ops Q rest (a.put o.dst undef) w') : wpList P ops Q (o :: rest) a w := by
  refine wpList_plain hg fun K' hK' => ?_
  obtain ⟨w', hrun, r1, r2⟩ := h.add (val := val) K ht hl hroom hkey hn
  unfold Oper.wp
  simp [execOp, hop, hm, hx, hv, hrun, Result.andThen]
  exact hK' _ _ (hK w' r1 r2)

/-- 'm[k] = v', of a key that is new. -/
theorem wpList_update_add (hg : o.guard = none) (m x v : Operand) (t : TypeId) (hop : o.op = Op.mapUpdate t m x v)
    (k e : TypeId) (K : Keyed P k) (ht : P.underlying t = some (.map k e)) (b : Nat) (l : List (Value × Value)) (hm : a.eval m = .map (some b)) (h : MapAt w b l) (hl : ∀ p ∈ l, ∃ i, keyOf P k p.1 = some i) (hroom : l.length < maxLen)
    (key val : Value) (kl : Lit) (hx : a.eval x = key) (hv : a.eval v = val) (hkey : keyOf P k key = some kl) (hn : ∀ p ∈ l, p.1 ≠ key)
    (hK : ∀ w', MapAt w' b (l ++ [(key, val)]) → w.grownBy w' (some b) → wpList P ops Q rest (a.put o.dst undef) w') : wpList P ops Q (o :: rest) a w := by
  refine wpList_plain hg fun K' hK' => ?_
  obtain ⟨w', hrun, r1, r2⟩ := h.add (val := val) K ht hl hroom hkey hn
  unfold Oper.wp
  simp [execOp, hop, hm, hx, hv, hrun, Result.andThen]
  exact hK' _ _ (hK w' r1 r2)
end

end Go.Proofs.YtfhlpbjdcdagjaaGreatDoor

namespace Go.Proofs.YtfhlpbjdcdagjaaGreatDoor
open Go.RowKit Go.MapKept
open Go.Maps (Keyed)
set_option linter.unusedVariables false
set_option maxRecDepth 100000

def effV (o : Int) : Value := .agg #[.int .i64 (tkI o), .int .i64 (lvI o)]

def effs : List (Value × Value) := (List.range 18).map fun (i : Nat) => (.int .i64 (i : Int), effV i)

theorem effs_len : effs.length = 18 := by simp [effs]

theorem effs_at (n : Nat) (h : n < 18) : effs[n]? = some (.int .i64 (n : Int), effV n) := by
  simp [effs, h]

theorem int_wf (n : Nat) (h : n < 18) : (Lit.int .i64 (n : Int)).wf = true := by
  simp [Lit.wf, IntKind.min, IntKind.max, IntKind.signed, IntKind.bits]
  omega

theorem effs_keys (n : Nat) : ∀ p ∈ effs.take n, ∃ i, keyOf Tryz.prog 3 p.1 = some i := by
  intro p hp
  have hp := List.mem_of_mem_take hp
  simp only [effs, List.mem_map, List.mem_range] at hp
  obtain ⟨i, hi, rfl⟩ := hp
  exact ⟨_, Maps.keyOf_int_mk Tryz.underlying3 (int_wf i hi)⟩

theorem effs_take {n : Nat} (h : n < 18) : effs.take (n + 1) = effs.take n ++ [(.int .i64 (n : Int), effV n)] := by
  rw [List.take_add_one, effs_at n h]
  rfl

/-- The first n effects stand in the map. -/
structure EffTo (W w : World) (b n : Nat) : Prop where
  at_ : MapAt w b (effs.take n)
  bel : Below W.heap.size W w
  new : W.heap.size ≤ b

theorem EffTo.start (w : World) : Hid (EffTo w (w.alloc (.map #[] 0)) w.heap.size 0) := hid ⟨MapAt.new w, (Below.refl _ w).alloc (Nat.le_refl _) _, Nat.le_refl _⟩

theorem eff_ins {W w : World} {ops : Array Oper} {rest : List Oper} {o : Oper} {a : Act} {Q : Exit → Act → World → Prop} {b n : Nat} (h : Hid (EffTo W w b n)) (hn : n < 18) (hg : o.guard = none) (m x v : Operand) (hop : o.op = Op.insert 174 m x v)
    (hm : a.eval m = .map (some b)) (hx : a.eval x = .int .i64 (n : Int)) (hv : a.eval v = effV n)
    (hK : ∀ w', Hid (EffTo W w' b (n + 1)) → wpList Tryz.prog ops Q rest (a.put o.dst undef) w') : wpList Tryz.prog ops Q (o :: rest) a w := by
  refine wpList_insert_add hg m x v _ hop 3 203 (Maps.int_keyed Tryz.underlying3) Tryz.underlying174 b _ hm h.out.at_ (effs_keys n) (by rw [List.length_take, effs_len]; unfold maxLen; omega) _ _ _ hx hv (Maps.keyOf_int_mk Tryz.underlying3 (int_wf n hn)) ?_ fun w' h1 h2 => hK w' (hid ⟨?_, ?_, h.out.new⟩)
  · intro p hp
    obtain ⟨j, hj, rfl⟩ := List.getElem_of_mem hp
    rw [List.length_take, effs_len] at hj
    rw [List.getElem_take]
    have := effs_at j (by omega)
    rw [List.getElem?_eq_getElem (by rw [effs_len]; omega)] at this
    injection this with this
    rw [this]
    intro q
    injection q with q1 q2
    omega
  · rw [effs_take hn]; exact h1
  · exact h.out.bel.grown h2 h.out.bel.size (fun g hg => by cases hg; exact h.out.new)

/-- All effects. -/
def EffAt (w : World) (b : Nat) : Prop := MapAt w b effs

theorem EffTo.all {W w : World} {b : Nat} (h : Hid (EffTo W w b 18)) : EffAt w b := by
  have := h.out.at_
  rw [List.take_of_length_le (Nat.le_of_eq effs_len)] at this
  exact this

theorem effect_zero (w : World) : (zeroValue 203).run Tryz.prog w = .ok (.agg #[.int .i64 0, .int .i64 0]) w := by kernel_rfl

set_option maxRecDepth 100000 in
theorem eff_look {w : World} {b : Nat} (h : EffAt w b) {o : Int} (h0 : 0 ≤ o) (h1 : o ≤ 17) :
    (Instr.lookup 174 (.map (some b)) (.int .i64 o) false).run Tryz.prog w = .ok (.agg #[.int .i64 (tkI o), .int .i64 (lvI o)]) w := by
  obtain ⟨n, rfl⟩ : ∃ n : Nat, o = (n : Int) := ⟨o.toNat, by omega⟩
  have hk := effs_keys 18
  rw [List.take_of_length_le (Nat.le_of_eq effs_len)] at hk
  rcases MapAt.look h (Maps.int_keyed Tryz.underlying3) Tryz.underlying174 (effect_zero w) hk (Maps.keyOf_int_mk Tryz.underlying3 (int_wf n (by omega))) with ⟨v, hv, hr⟩ | ⟨hno, _⟩
  · rw [hr]
    simp only [effs, List.mem_map, List.mem_range, Prod.mk.injEq] at hv
    obtain ⟨i, hi, h2, rfl⟩ := hv
    injection h2 with h3 h4
    rw [h4]
    rfl
  · exact absurd rfl (hno (.int .i64 (n : Int), effV n) (by
      have := effs_at n (by omega)
      exact List.mem_of_getElem? this))

set_option maxRecDepth 100000 in
set_option maxHeartbeats 2000000 in
theorem effects_any (w : World) :
    Calls Tryz.prog 130 #[] w fun e w' => ∃ b, e = .returned (.map (some b)) ∧ EffAt w' b ∧ Below w.heap.size w w' ∧ w.heap.size ≤ b := by
  have hmm := @run_makeMap Tryz.prog
  have he := EffTo.start w
  go_enter Tryz.func130, Tryz.ntmps130
  go_wp2_with (with_reducible (refine eff_ins he (by omega) rfl _ _ _ rfl rfl rfl rfl ?_); clear he; intro w1 he)
  go_ret
  exact ⟨_, rfl, EffTo.all he, he.out.bel, he.out.new⟩

end Go.Proofs.YtfhlpbjdcdagjaaGreatDoor

namespace Go.Proofs.YtfhlpbjdcdagjaaGreatDoor
open Go.RowKit Go.Lib
set_option linter.unusedVariables false
set_option maxRecDepth 100000

theorem index_blank : ∀ (a b : List UInt8), (∀ c ∈ a, Wb c) → index (a ++ 32 :: b) [32] = a.length
  | [], b, _ => by simp [index]
  | c :: a, b, h => by
    have hc := (h c (by simp)).1
    have ih := index_blank a b (fun c hc => h c (by simp [hc]))
    rw [List.cons_append, index, ih]
    have : ([32] : List UInt8).isPrefixOf (c :: (a ++ 32 :: b)) = false := by
      simp only [List.isPrefixOf, Bool.and_eq_false_iff, beq_eq_false_iff_ne]
      exact .inl (fun e => hc e.symm)
    rw [this, if_neg (by simp)]
    have h2 : (((a.length : Nat) : Int) == -1) = false := by simp
    rw [h2, if_neg (by simp)]
    simp

theorem index_no : ∀ (a : List UInt8), (∀ c ∈ a, Wb c) → index a [32] = -1
  | [], _ => by simp [index]
  | c :: a, h => by
    have hc := (h c (by simp)).1
    have ih := index_no a (fun c hc => h c (by simp [hc]))
    rw [index, ih]
    have : ([32] : List UInt8).isPrefixOf (c :: a) = false := by
      simp only [List.isPrefixOf, Bool.and_eq_false_iff, beq_eq_false_iff_ne]
      exact .inl (fun e => hc e.symm)
    rw [this]
    simp

/-- A word that ends with a semicolon is as one without. -/
theorem index_semi (a b : List UInt8) (h : ∀ c ∈ a, Wb c) : index (a ++ 59 :: 32 :: b) [32] = (a.length + 1 : Nat) := by
  have key : ∀ (a b : List UInt8), (∀ c ∈ a, c ≠ 32) → index (a ++ 32 :: b) [32] = a.length := by
    intro a b
    induction a with
    | nil => intro _; simp [index]
    | cons c a ih =>
      intro h
      have hc := h c (by simp)
      have ih := ih (fun c hc => h c (by simp [hc]))
      rw [List.cons_append, index, ih]
      have : ([32] : List UInt8).isPrefixOf (c :: (a ++ 32 :: b)) = false := by
        simp only [List.isPrefixOf, Bool.and_eq_false_iff, beq_eq_false_iff_ne]
        exact .inl (fun e => hc e.symm)
      rw [this, if_neg (by simp)]
      have h2 : (((a.length : Nat) : Int) == -1) = false := by simp
      rw [h2, if_neg (by simp)]
      simp
  have := key (a ++ [59]) b (fun c hc => by
    rcases List.mem_append.1 hc with hc | hc
    · exact (h c hc).1
    · obtain rfl := List.mem_singleton.1 hc; decide)
  rw [List.append_assoc] at this
  simpa using this

theorem cut_at {s : List UInt8} {k : Nat} (h : index s [32] = (k : Nat)) : (cut s [32]).1 = s.take k ∧ (cut s [32]).2.1 = s.drop (k + 1) := by
  unfold cut
  rw [h, if_pos (by omega)]
  exact ⟨rfl, rfl⟩

theorem cut_no {s : List UInt8} (h : index s [32] = -1) : (cut s [32]).1 = s ∧ (cut s [32]).2.1 = [] := by
  unfold cut
  rw [h, if_neg (by omega)]
  exact ⟨rfl, rfl⟩

theorem trim_no {a : List UInt8} (h : ∀ c ∈ a, Wb c) : trimSuffix a [59] = a := by
  unfold trimSuffix
  rw [if_neg]
  intro e
  unfold hasSuffix at e
  obtain ⟨t, ht⟩ := List.isSuffixOf_iff_suffix.1 e
  exact (h 59 (by rw [← ht]; simp)).2 rfl

theorem trim_semi (a : List UInt8) : trimSuffix (a ++ [59]) [59] = a := by
  unfold trimSuffix
  rw [if_pos]
  · simp
  · unfold hasSuffix
    rw [List.isSuffixOf_iff_suffix]
    exact ⟨a, rfl⟩

theorem word_blank (a b : List UInt8) (h : ∀ c ∈ a, Wb c) : wordL (a ++ 32 :: b) = a ∧ restL (a ++ 32 :: b) = b := by
  obtain ⟨h1, h2⟩ := cut_at (index_blank a b h)
  unfold wordL restL
  rw [h1, h2]
  refine ⟨?_, by simp⟩
  rw [List.take_left' rfl, trim_no h]

theorem word_semi (a b : List UInt8) (h : ∀ c ∈ a, Wb c) : wordL (a ++ 59 :: 32 :: b) = a ∧ restL (a ++ 59 :: 32 :: b) = b := by
  obtain ⟨h1, h2⟩ := cut_at (index_semi a b h)
  unfold wordL restL
  rw [h1, h2]
  have e : a ++ 59 :: 32 :: b = (a ++ [59]) ++ (32 :: b) := by simp
  refine ⟨?_, ?_⟩
  · rw [e, List.take_left' (by simp), trim_semi]
  · have e2 : a ++ 59 :: 32 :: b = (a ++ [59, 32]) ++ b := by simp
    rw [e2, List.drop_left' (by simp)]

theorem word_last (a : List UInt8) (h : ∀ c ∈ a, Wb c) : wordL a = a ∧ restL a = [] := by
  obtain ⟨h1, h2⟩ := cut_no (index_no a h)
  unfold wordL restL
  rw [h1, h2]
  exact ⟨trim_no h, rfl⟩

/-- The first instruction's words are read, and what is behind them is the others'. -/
theorem read_plain {x : Int × Int} (r : List (Int × Int)) (hx : rightI x = true) (hn : numdI x.1 = false) : wordL (textL (x :: r)) = nameL x.1 ∧ restL (textL (x :: r)) = textL r := by
  have hb := rightI_bounds hx
  have hw : wordI x = nameL x.1 := by unfold wordI; rw [hn]; simp
  cases r with
  | nil =>
    rw [textL_one, hw]
    exact word_last _ (nameL_wb hb.1 hb.2.1)
  | cons y r =>
    rw [textL_cons _ _ (by simp), hw]
    exact word_semi _ _ (nameL_wb hb.1 hb.2.1)

theorem read_numbered {x : Int × Int} (r : List (Int × Int)) (hx : rightI x = true) (hn : numdI x.1 = true) :
    wordL (textL (x :: r)) = nameL x.1 ∧ wordL (restL (textL (x :: r))) = itoa x.2 ∧ restL (restL (textL (x :: r))) = textL r := by
  have hb := rightI_bounds hx
  have hw : wordI x = nameL x.1 ++ 32 :: itoa x.2 := by unfold wordI; rw [hn]; simp
  cases r with
  | nil =>
    rw [textL_one, hw]
    obtain ⟨h1, h2⟩ := word_blank (nameL x.1) (itoa x.2) (nameL_wb hb.1 hb.2.1)
    rw [h1, h2]
    obtain ⟨h3, h4⟩ := word_last (itoa x.2) (itoa_wb _)
    exact ⟨rfl, h3, h4⟩
  | cons y r =>
    rw [textL_cons _ _ (by simp), hw]
    have e : nameL x.1 ++ 32 :: itoa x.2 ++ 59 :: 32 :: textL (y :: r) = nameL x.1 ++ 32 :: (itoa x.2 ++ 59 :: 32 :: textL (y :: r)) := by simp
    rw [e]
    obtain ⟨h1, h2⟩ := word_blank (nameL x.1) (itoa x.2 ++ 59 :: 32 :: textL (y :: r)) (nameL_wb hb.1 hb.2.1)
    rw [h1, h2]
    obtain ⟨h3, h4⟩ := word_semi (itoa x.2) (textL (y :: r)) (itoa_wb _)
    exact ⟨rfl, h3, h4⟩

theorem textL_inj : ∀ {a b : List (Int × Int)}, a.all rightI = true → b.all rightI = true → textL a = textL b → a = b
  | [], [], _, _, _ => rfl
  | [], y :: b, _, hb, h => by
    rw [List.all_cons, Bool.and_eq_true] at hb
    exact absurd h.symm (textL_ne hb.1)
  | x :: a, [], ha, _, h => by
    rw [List.all_cons, Bool.and_eq_true] at ha
    exact absurd h (textL_ne ha.1)
  | x :: a, y :: b, ha, hb, h => by
    rw [List.all_cons, Bool.and_eq_true] at ha hb
    have bx := rightI_bounds ha.1
    have bY := rightI_bounds hb.1
    have h1 : x.1 = y.1 := by
      have hw : nameL x.1 = nameL y.1 := by
        have e1 : wordL (textL (x :: a)) = nameL x.1 := by
          cases hn : numdI x.1 with
          | true => exact (read_numbered a ha.1 hn).1
          | false => exact (read_plain a ha.1 hn).1
        have e2 : wordL (textL (y :: b)) = nameL y.1 := by
          cases hn : numdI y.1 with
          | true => exact (read_numbered b hb.1 hn).1
          | false => exact (read_plain b hb.1 hn).1
        rw [← e1, ← e2, h]
      have e1 := opOf_name x.1 bx.1 bx.2.1
      have e2 := opOf_name y.1 bY.1 bY.2.1
      rw [← e1, ← e2, hw]
    cases hn : numdI x.1 with
    | true =>
      have hn2 : numdI y.1 = true := by rw [← h1]; exact hn
      have r1 := read_numbered a ha.1 hn
      have r2 := read_numbered b hb.1 hn2
      have h2 : itoa x.2 = itoa y.2 := by rw [← r1.2.1, ← r2.2.1, h]
      have h3 : textL a = textL b := by rw [← r1.2.2, ← r2.2.2, h]
      have s1 := rightI_small ha.1
      have s2 := rightI_small hb.1
      have i1 := atoi_itoa x.2 s1.1 s1.2
      have i2 := atoi_itoa y.2 s2.1 s2.2
      rw [h2, i2] at i1
      injection i1 with i1
      rw [textL_inj ha.2 hb.2 h3, show x = y from Prod.ext h1 i1.symm]
    | false =>
      have hn2 : numdI y.1 = false := by rw [← h1]; exact hn
      have h3 : textL a = textL b := by rw [← (read_plain a ha.1 hn).2, ← (read_plain b hb.1 hn2).2, h]
      have z1 := rightI_zero ha.1 hn
      have z2 := rightI_zero hb.1 hn2
      rw [textL_inj ha.2 hb.2 h3, show x = y from Prod.ext h1 (by rw [z1, z2])]

/-- So far q was read, and L is left: whosever words S are, q is what they begin with. -/
def Rdg (S : List UInt8) (q : List (Int × Int)) (L : List UInt8) : Prop :=
  ∀ l, fitsL l = true → S = textL l → ∃ k, k ≤ l.length ∧ q = l.take k ∧ L = textL (l.drop k)

theorem Rdg.start (S : List UInt8) : Rdg S [] S := fun l _ h => ⟨0, Nat.zero_le _, by simp, by simpa using h⟩

theorem drop_right {l : List (Int × Int)} (h : fitsL l = true) {k : Nat} (hk : k < l.length) : l.drop k = l[k] :: l.drop (k + 1) ∧ rightI l[k] = true := by
  refine ⟨List.drop_eq_getElem_cons hk, ?_⟩
  rw [fitsL_iff] at h
  exact List.all_eq_true.1 h.2 _ (List.getElem_mem hk)

theorem Rdg.lt {S L : List UInt8} {q : List (Int × Int)} (hL : L ≠ []) {l : List (Int × Int)} {k : Nat} (hk : k ≤ l.length) (h : L = textL (l.drop k)) : k < l.length := by
  rcases Nat.lt_or_ge k l.length with h1 | h1
  · exact h1
  · rw [List.drop_eq_nil_of_le h1] at h
    exact absurd h hL

theorem Rdg.plain {S L : List UInt8} {q : List (Int × Int)} (h : Rdg S q L) (hL : L ≠ []) {o : Int} (ho : opOf (wordL L) = o) (hn : numdI o = false) : Rdg S (q ++ [(o, 0)]) (restL L) := by
  intro l hf hS
  obtain ⟨k, hk, hq, hLk⟩ := h l hf hS
  have hlt := Rdg.lt (S := S) (q := q) hL hk hLk
  obtain ⟨hd, hr⟩ := drop_right hf hlt
  have hb := rightI_bounds hr
  rw [hd] at hLk
  have e1 : wordL L = nameL l[k].1 := by
    rw [hLk]
    cases hn : numdI l[k].1 with
    | true => exact (read_numbered _ hr hn).1
    | false => exact (read_plain _ hr hn).1
  have e2 : o = l[k].1 := by rw [← ho, e1, opOf_name _ hb.1 hb.2.1]
  rw [e2] at hn
  refine ⟨k + 1, hlt, ?_, ?_⟩
  · rw [List.take_succ_eq_append_getElem hlt, ← hq, e2, ← rightI_zero hr hn]
  · rw [hLk]; exact (read_plain _ hr hn).2

theorem Rdg.numbered {S L : List UInt8} {q : List (Int × Int)} (h : Rdg S q L) (hL : L ≠ []) {o a : Int} (ho : opOf (wordL L) = o) (hn : numdI o = true) (ha : ∀ n, atoiAll (wordL (restL L)) = .ok n → a = n) :
    Rdg S (q ++ [(o, a)]) (restL (restL L)) := by
  intro l hf hS
  obtain ⟨k, hk, hq, hLk⟩ := h l hf hS
  have hlt := Rdg.lt (S := S) (q := q) hL hk hLk
  obtain ⟨hd, hr⟩ := drop_right hf hlt
  have hb := rightI_bounds hr
  rw [hd] at hLk
  have e1 : wordL L = nameL l[k].1 := by
    rw [hLk]
    cases hn : numdI l[k].1 with
    | true => exact (read_numbered _ hr hn).1
    | false => exact (read_plain _ hr hn).1
  have e2 : o = l[k].1 := by rw [← ho, e1, opOf_name _ hb.1 hb.2.1]
  rw [e2] at hn
  have r := read_numbered (l.drop (k + 1)) hr hn
  rw [← hLk] at r
  have s := rightI_small hr
  have e3 : a = l[k].2 := ha _ (by rw [r.2.1]; exact atoi_itoa _ s.1 s.2)
  refine ⟨k + 1, hlt, ?_, r.2.2⟩
  rw [List.take_succ_eq_append_getElem hlt, ← hq, e2, e3]

theorem Rdg.done {S L : List UInt8} {q : List (Int × Int)} (h : Rdg S q L) (hL : L = [] ∨ 24 < q.length) {l : List (Int × Int)} (hf : fitsL l = true) (hS : S = textL l) : q = l := by
  obtain ⟨k, hk, hq, hLk⟩ := h l hf hS
  rcases hL with rfl | hL
  · rcases Nat.lt_or_ge k l.length with h1 | h1
    · obtain ⟨hd, hr⟩ := drop_right hf h1
      rw [hd] at hLk
      exact absurd hLk.symm (textL_ne hr)
    · rw [hq, List.take_of_length_le h1]
  · have h1 := (fitsL_iff l).1 hf
    have : q.length ≤ l.length := by rw [hq, List.length_take]; omega
    omega

/-- What Parse answers. -/
inductive PrsIs (S : List UInt8) : List (Int × Int) → Int → Prop
  | good (l : List (Int × Int)) : fitsL l = true → S = textL l → PrsIs S l 0
  | bad : (∀ l, fitsL l = true → S ≠ textL l) → PrsIs S [] 4

theorem Rdg.good {S L : List UInt8} {q : List (Int × Int)} (h : Rdg S q L) (hL : L = [] ∨ 24 < q.length) (hq : outL q = S) : PrsIs S q 0 := by
  cases hf : fitsL q with
  | true => exact .good q hf (by rw [← hq, textL_out hf])
  | false =>
    rw [textL_out_not hf] at hq
    have := h.done hL (l := []) rfl (by rw [← hq]; rfl)
    rw [this] at hf
    cases hf

theorem Rdg.bad {S L : List UInt8} {q : List (Int × Int)} (h : Rdg S q L) (hL : L = [] ∨ 24 < q.length) (hq : outL q ≠ S) : PrsIs S [] 4 := by
  refine .bad fun l hf hS => hq ?_
  rw [h.done hL hf hS, textL_out hf, hS]

theorem PrsIs.of_text {S : List UInt8} {p l : List (Int × Int)} {e : Int} (h : PrsIs S l e) (hp : fitsL p = true) (hS : S = textL p) : l = p ∧ e = 0 := by
  cases h with
  | good _ hf ht => exact ⟨textL_inj ((fitsL_iff _).1 hf).2 ((fitsL_iff _).1 hp).2 (by rw [← ht, hS]), rfl⟩
  | bad h => exact absurd hS (h p hp)

theorem wordL_len (s : List UInt8) : (wordL s).length ≤ s.length := by
  have h1 : (cut s [32]).1.length ≤ s.length := by
    unfold cut; split
    · simp; omega
    · simp
  have h2 : ∀ t : List UInt8, (trimSuffix t [59]).length ≤ t.length := fun t => by
    unfold trimSuffix; split
    · simp
    · exact Nat.le_refl _
  exact Nat.le_trans (h2 _) h1

theorem restL_len (s : List UInt8) : (restL s).length ≤ s.length := by
  unfold restL cut; split
  · simp
  · simp

end Go.Proofs.YtfhlpbjdcdagjaaGreatDoor
