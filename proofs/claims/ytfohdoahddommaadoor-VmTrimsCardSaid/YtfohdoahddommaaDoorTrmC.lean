/- Layer 5, check: what is trimmed: contract of Trim. -/
import Derived.Test.YtfohdoahddommaaDoorTrmB
namespace Go.Proofs.YtfohdoahddommaaDoor
open Go.RowKit Go.Lib
set_option linter.unusedVariables false
set_option maxRecDepth 100000

/-- A row of the call's own stays when only new blocks come. -/
theorem own_on {B : Nat} {e : TypeId} {k : Nat} {v : Value} {n : Nat} {xs : List Value} {w w' : World} (h : w.ownsRow B e k v n xs) (hb : Below w.heap.size w w') : w'.ownsRow B e k v n xs :=
  h.kept (row := none) ⟨hb.os, hb.tape, hb.output, hb.size, fun j hj _ => hb.block j hj⟩ (by cases hv : v.ownBlock <;> simp)

/-- The instruction at k, trimmed, where S tells which stay. -/
def tmI (l : List (Int × Int)) (S : List Bool) (k : Nat) : Int × Int := if opAt l k = 15 ∨ opAt l k = 16 then jumpI (opAt l k) (leaptN l S k) else l.getD k (0, 0)

/-- The first k places, trimmed. -/
def tmTo (l : List (Int × Int)) (S : List Bool) : Nat → List (Int × Int)
  | 0 => []
  | k + 1 => if S.getD k false = true then tmTo l S k ++ [tmI l S k] else tmTo l S k

theorem tmTo_le (l : List (Int × Int)) (S : List Bool) (k : Nat) : (tmTo l S k).length ≤ k := by
  induction k with
  | zero => exact Nat.le_refl _
  | succ k ih =>
    unfold tmTo
    split
    · rw [List.length_append]; simp; omega
    · omega

def trimL (l : List (Int × Int)) (s : CkS) : List (Int × Int) := tmTo l (stTo l s.D l.length) l.length

theorem chk_len {l : List (Int × Int)} {s : CkS} (h : chk l = some s) : s.D.length = l.length := by
  unfold chk at h
  split at h
  · exact ((inv_to l _ (Nat.le_refl _)).1 _ h).lenD
  · cases h

theorem jump_fits {l : List (Int × Int)} (hf : fitsL l = true) : ∀ k, k < l.length → opAt l k = 15 ∨ opAt l k = 16 → 0 ≤ arAt l k ∧ arAt l k ≤ 1000000 := by
  intro k hk ho
  obtain ⟨o, a, hoa⟩ := pair_of (p := l.getD k (0, 0))
  have hr := ins_right hf hk hoa
  have e1 : opAt l k = o := by unfold opAt; rw [hoa]
  have e2 : arAt l k = a := by unfold arAt; rw [hoa]
  rw [e1] at ho
  rw [e2]
  have hb := rightI_bounds hr
  simp only at hb
  refine ⟨?_, by omega⟩
  unfold rightI at hr
  simp only [Bool.and_eq_true, decide_eq_true_eq] at hr
  rcases ho with rfl | rfl
  · have : 0 ≤ loI 15 := by decide
    omega
  · have : 0 ≤ loI 16 := by decide
    omega

theorem leapt_from {W : World} (v vs : Value) (l : List (Int × Int)) (S : List Bool) (k : Nat) (w : World) (hv : Hid (SlV W W.heap.size v l)) (hs : Hid (SlB W W.heap.size vs S)) (hl : Hid (k < l.length ∧ l.length ≤ 1000 ∧ S.length = l.length ∧ 0 ≤ arAt l k ∧ arAt l k ≤ 1000000)) (h : Hid (Below W.heap.size W w)) :
    Calls Tryd.prog 33 #[v, .int .i64 k, vs] w fun e w' => e = .returned (.int .i64 (leaptN l S k)) ∧ Hid (Below W.heap.size W w') :=
  (leapt_any v vs l S k w (hv.out.here h) (hs.out.here h) hl.out.1 hl.out.2.1 hl.out.2.2.1 hl.out.2.2.2.1 hl.out.2.2.2.2).mono fun e w' ⟨he, hb⟩ => ⟨he, hid (h.out.trans (hb.mono h.out.size))⟩

theorem jump_from {W : World} (o : Int) (n : Nat) (w : World) (h : Hid (Below W.heap.size W w)) :
    Calls Tryd.prog 32 #[.int .i64 o, .int .i64 n] w fun e w' => e = .returned (val (jumpI o n).1 (jumpI o n).2) ∧ Hid (Below W.heap.size W w') :=
  (jump_any o n w).mono fun e w' ⟨he, hb⟩ => ⟨he, hid (h.out.trans (hb.mono h.out.size))⟩

theorem two_set {W : World} (w : World) (b : Nat) (u v : Value) (h : Hid (Below W.heap.size W w)) (hn0 : ∃ x, w.cell? ⟨W.heap.size, 0, none⟩ = some x) (hn1 : ∃ x, w.cell? ⟨W.heap.size, 1, none⟩ = some x) (hb : b = W.heap.size := by rfl) :
    ∃ W8, (w.setCell ⟨b, 0, none⟩ u).setCell ⟨b, 1, none⟩ v = W8 ∧ Hid (Below W.heap.size W W8) ∧ W8.cell? ⟨b, 0, none⟩ = some u ∧ W8.cell? ⟨b, 1, none⟩ = some v := by
  subst hb
  obtain ⟨x0, h0⟩ := hn0
  obtain ⟨x1, h1⟩ := hn1
  refine ⟨_, rfl, hid ((h.out.setCell (Nat.le_refl _) _).setCell (Nat.le_refl _) _), ?_, ?_⟩
  · rw [World.cell?_setCell_other _ _ _ _ (by intro e; injection e with e1 e2; omega), World.cell?_setCell_same _ _ _ h0]
  · have : (w.setCell ⟨W.heap.size, 0, none⟩ u).cell? ⟨W.heap.size, 1, none⟩ = some x1 := by
      rw [World.cell?_setCell_other _ _ _ _ (by intro e; injection e with e1 e2; omega)]; exact h1
    rw [World.cell?_setCell_same _ _ _ this]

def TrimPost (W : World) (l : List (Int × Int)) (q : Option CkS) (r : Ending) (w' : World) : Prop :=
  match q with
  | some s => ∃ v, r = .returned (.tuple #[v, .int .i64 0]) ∧ SlV w' w'.heap.size v (trimL l s) ∧ Below W.heap.size W w'
  | none => r = .returned (.tuple #[.slice none 0 0, .int .i64 9]) ∧ Below W.heap.size W w'

set_option maxRecDepth 100000 in
set_option maxHeartbeats 2000000 in
theorem trim_any (v : Value) (l : List (Int × Int)) (q : Option CkS) (hq : Hid (chk l = q)) (hl : l.length ≤ 1000000000000) (w : World) (hv : SlV w w.heap.size v l) :
    Calls Tryd.prog 17 #[v] w fun e w' => TrimPost w l q e w' := by
  have HV := hid hv
  obtain ⟨A0, c0, rfl, hc0, hA⟩ := hv
  have HA := hid hA; clear hA
  go_enter Tryd.func17, Tryd.ntmps17
  go_wp2_with fail
  refine (check_any _ l q hq hl w HV.out).mono ?_
  intro e w1 hp
  cases q with
  | none =>
    obtain ⟨rfl, hb⟩ := hp
    have HB := hid hb; clear hb
    go_wp2_with fail
    go_ret2
    exact ⟨rfl, HB.out.alloc HB.out.size _⟩
  | some s =>
    obtain ⟨v1, rfl, hsl, hb⟩ := hp
    have HB := hid hb; clear hb
    have HSL := hid hsl
    obtain ⟨A, c, rfl, _, _⟩ := hsl
    obtain ⟨D, E, mx, em, u0, u1⟩ := s
    have HQ := hid (chk_some hq.out)
    have HW1 : Hid (Below w.heap.size w (w1.alloc (.cells #[.slice A D.length c, .int .i64 mx, .int .i64 em, .bool u0, .bool u1] 68))) := hid (HB.out.alloc HB.out.size _)
    have HDL : Hid (D.length = l.length) := hid (chk_len hq.out)
    have HL1 : Hid (l.length ≤ 1000) := hid (by have := ((fitsL_iff l).1 HQ.out.1).1; omega)
    have HAR : Hid (∀ k, k < l.length → opAt l k = 15 ∨ opAt l k = 16 → 0 ≤ arAt l k ∧ arAt l k ≤ 1000000) := hid (jump_fits HQ.out.1)
    have HSL1 : Hid (SlI (w1.alloc (.cells #[.slice A D.length c, .int .i64 mx, .int .i64 em, .bool u0, .bool u1] 68)) (w1.alloc (.cells #[.slice A D.length c, .int .i64 mx, .int .i64 em, .bool u0, .bool u1] 68)).heap.size .i64 (.slice A D.length c) D) := hid ((HSL.out.below ((Below.refl _ _).alloc (Nat.le_refl _) _)).mono (by rw [World.size_alloc]; omega))
    go_wp2_with fail
    refine (staying_any _ _ l D _ ((HV.out.below HW1.out).mono HW1.out.size) HSL1.out HL1.out HDL.out HAR.out).mono ?_
    rintro e w2 ⟨b, rfl, HBL⟩
    have HL1 := HL1.out
    have HSL2 : Hid ((stTo l D l.length).length = l.length) := hid (stTo_len _ _ _)
    obtain ⟨S, hS⟩ : ∃ S, stTo l D l.length = S := ⟨_, rfl⟩
    rw [hS] at HBL HSL2
    have HS := hid hS; clear hS
    obtain ⟨i0, hi, hz0, hz1, hz2⟩ := info_parts insInfo
    have HB2 : Hid (Below w.heap.size w w2) := hid (HW1.out.trans (HBL.out.bel.mono HW1.out.size))
    have HLB : Hid (b < w2.heap.size ∧ w.heap.size ≤ b) := hid ⟨HBL.out.lt, Nat.le_trans HW1.out.size HBL.out.ge⟩
    have HSB : Hid (SlB w2 w2.heap.size (.slice (some ⟨b, 0, none⟩) l.length l.length) S) := hid (by have := HBL.out.sl; rw [HSL2.out] at this; exact this)
    have HVw : Hid (SlV w2 w2.heap.size (.slice A0 l.length c0) l) := hid ((HV.out.below HB2.out).mono HB2.out.size)
    have HBC : Hid (∀ j, j < l.length → w2.cell? ⟨b, j, none⟩ = some (.bool (S.getD j false))) := hid (fun j hj => HBL.out.c j (by rw [HSL2.out]; exact hj))
    obtain ⟨A3, c3, hv3, _, hA3⟩ := HVw.out
    injection hv3 with e1 e2 e3
    subst e1
    subst e3
    have HA3 := hid hA3; clear hA3
    clear HBL HW1 HSL1 HSL HB hq
    clear HV HA
    go_wp2_with fail
    go_loopw [7, 24] (fun v i wr => ∃ k : Nat, k ≤ l.length ∧ i = .int .i64 k ∧ Hid (wr.ownsRow w2.heap.size 37 2 v (tmTo l S k).length (insCells (tmTo l S k))) ∧ Hid (Below w2.heap.size w2 wr)) (fun _ i _ => l.length - (RowKit.intOf i).toNat)
    case atStart => exact ⟨0, Nat.zero_le _, rfl, hid (World.ownsRow_nil _ _ _ _), hid (Below.refl _ _)⟩
    case round =>
      obtain ⟨k, hk, rfl, HO, HBR⟩ := hrel
      by_cases hlt : k < l.length
      · obtain ⟨b1, o1, rfl, hb1, hcell⟩ := HA3.out (by omega)
        obtain ⟨ca, cb⟩ := hcell k hlt
        have cs := HBC.out k hlt
        obtain ⟨o, a, hoa⟩ := pair_of (p := l.getD k (0, 0))
        have HOA := hid hoa
        rw [hoa] at ca cb
        clear hoa hcell
        have ca' := (HBR.out.cell (p := ⟨b1, o1 + k * 2, none⟩) hb1).trans ca
        have cb' := (HBR.out.cell (p := ⟨b1, o1 + k * 2 + 1, none⟩) hb1).trans cb
        have cs' := (HBR.out.cell (p := ⟨b, k, none⟩) HLB.out.1).trans cs
        have cs2 := ((((Below.refl wr.heap.size wr).alloc (Nat.le_refl _) (.cells #[.int .i64 o, .int .i64 a] 37)).cell (p := ⟨b, k, none⟩) (Nat.lt_of_lt_of_le HLB.out.1 HBR.out.size))).trans cs'
        clear ca cb cs
        have HO4 := hid (HO.out.alloc (.cells #[.int .i64 o, .int .i64 a] 37))
        have HB4 := hid (HBR.out.alloc HBR.out.size (.cells #[.int .i64 o, .int .i64 a] 37))
        cases hsk : S.getD k false with
        | false =>
          rw [hsk] at cs' cs2
          have HT : Hid (tmTo l S (k + 1) = tmTo l S k) := hid (by show (if S.getD k false = true then _ else _) = _; rw [hsk]; rfl)
          clear hsk
          go_wp2_with fail
          go_roundw
          case rel => exact ⟨k + 1, by omega, by go_num, by rw [HT.out]; exact HO4, HB4⟩
          case measure => simp [RowKit.intOf] <;> omega
        | true =>
          rw [hsk] at cs' cs2
          have HT : Hid (tmTo l S (k + 1) = tmTo l S k ++ [tmI l S k]) := hid (by show (if S.getD k false = true then _ else _) = _; rw [hsk]; rfl)
          clear hsk
          have hn1 : (wr.alloc (.cells #[.int .i64 o, .int .i64 a] 37)).cell? ⟨wr.heap.size, 0, none⟩ = some (.int .i64 o) := by simp
          have hn2 : (wr.alloc (.cells #[.int .i64 o, .int .i64 a] 37)).cell? ⟨wr.heap.size, 1, none⟩ = some (.int .i64 a) := by simp
          have HLT2 := hid (show wr.heap.size < (wr.alloc (.cells #[.int .i64 o, .int .i64 a] 37)).heap.size by rw [World.size_alloc]; omega)
          have HN1 := hid hn1
          have HN2 := hid hn2
          clear hn1 hn2
          go_wp2_with fail
          refine (jumps_any o a _).mono ?_
          rintro e w3 ⟨rfl, hb⟩
          obtain ⟨hc, hf⟩ := bcell hb
          have n1 := (hc _ _ HLT2.out).trans HN1.out
          have n2 := (hc _ _ HLT2.out).trans HN2.out
          have HB5 := hid (HB4.out.trans (hb.mono HB4.out.size))
          have HO5 := hid (own_on HO4.out hb)
          have m1 := (hf wr.heap.size 0 HLT2.out).trans (show (wr.alloc (.cells #[.int .i64 o, .int .i64 a] 37)).frozen? ⟨wr.heap.size, 0, none⟩ = false by rw [World.frozen?_alloc_new])
          have m2 := (hf wr.heap.size 1 HLT2.out).trans (show (wr.alloc (.cells #[.int .i64 o, .int .i64 a] 37)).frozen? ⟨wr.heap.size, 1, none⟩ = false by rw [World.frozen?_alloc_new])
          have HBX := hid (((Below.refl wr.heap.size wr).alloc (Nat.le_refl _) (.cells #[.int .i64 o, .int .i64 a] 37)).trans (hb.mono (Nat.le_of_lt HLT2.out)))
          have HLT3 := hid (Nat.lt_of_lt_of_le HLT2.out hb.size)
          clear hc hf hb
          by_cases hj : o = 15 ∨ o = 16
          · have dj : decide (o = 15 ∨ o = 16) = true := decide_eq_true hj
            have HVX : Hid (SlV w3 w3.heap.size (.slice (some ⟨b1, o1, none⟩) l.length c0) l) := hid ((HVw.out.below HB5.out).mono HB5.out.size)
            have HSX : Hid (SlB w3 w3.heap.size (.slice (some ⟨b, 0, none⟩) l.length l.length) S) := hid (HSB.out.here HB5)
            have HLL : Hid (k < l.length ∧ l.length ≤ 1000 ∧ S.length = l.length ∧ 0 ≤ arAt l k ∧ arAt l k ≤ 1000000) := hid ⟨hlt, HL1, HSL2.out, HAR.out k hlt (by unfold opAt; rw [HOA.out]; exact hj)⟩
            have HJ := hid hj
            clear hj
            go_wp2_with fail
            have HQ4 := hid (And.intro n1 (And.intro n2 (And.intro m1 m2)))
            have hb0 : Hid (Below w3.heap.size w3 w3.drew) := hid ((Below.refl w3.heap.size w3).drew)
            go_region_law (first | (go_simp; go_at_call 33; (with_reducible refine (leapt_from (W := w3) _ _ l S k _ HVX HSX HLL ?_).mono ?_); assumption; rintro e w4 ⟨rfl, HB8⟩; have n1 := ((bcell HB8.out).1 _ _ HLT3.out).trans HQ4.out.1; have n2 := ((bcell HB8.out).1 _ _ HLT3.out).trans HQ4.out.2.1; have m1 := ((bcell HB8.out).2 _ _ HLT3.out).trans HQ4.out.2.2.1; have m2 := ((bcell HB8.out).2 _ _ HLT3.out).trans HQ4.out.2.2.2) | (go_simp; go_at_call 32; (with_reducible refine (jump_from (W := w3) _ _ _ ?_).mono ?_); assumption; rintro e w4 ⟨rfl, HB8⟩; have n1 := ((bcell HB8.out).1 _ _ HLT3.out).trans HQ4.out.1; have n2 := ((bcell HB8.out).1 _ _ HLT3.out).trans HQ4.out.2.1; have m1 := ((bcell HB8.out).2 _ _ HLT3.out).trans HQ4.out.2.2.1; have m2 := ((bcell HB8.out).2 _ _ HLT3.out).trans HQ4.out.2.2.2))
            all_goals
              obtain ⟨oj, aj, hja⟩ := pair_of (p := jumpI o (leaptN l S k))
              have HTI : Hid (tmI l S k = (oj, aj)) := hid (by unfold tmI opAt; rw [HOA.out, if_pos HJ.out, hja])
              have HB9 := hid (HBX.out.trans (HB8.out.mono HBX.out.size))
              obtain ⟨W8, hW8, HB0, c80, c81⟩ := two_set w4 wr.heap.size (.int .i64 oj) (.int .i64 aj) HB9 ⟨_, n1⟩ ⟨_, n2⟩
              simp only [hja]
              rw [hW8]
              have HOY := hid (own_on HO.out HB0.out)
              have HBY := hid (HBR.out.trans (HB0.out.mono HBR.out.size))
              clear hja hW8 n1 n2 m1 m2
              have HT2 : Hid (tmTo l S (k + 1) = tmTo l S k ++ [(oj, aj)]) := hid (by rw [HT.out, HTI.out])
              have hql := tmTo_le l S k
              obtain ⟨Q, hQ⟩ : ∃ Q, tmTo l S k = Q := ⟨_, rfl⟩
              rw [hQ] at hql HT2 HOY
              clear hQ
              have HO6 := hid (HOY.out.alloc (.cells #[.int .i64 oj, .int .i64 aj] 37))
              have HB6 := hid (HBY.out.alloc HBY.out.size (.cells #[.int .i64 oj, .int .i64 aj] 37))
              have HC : Hid (∀ j u, [Value.int .i64 oj, Value.int .i64 aj][j]? = some u → (W8.alloc (.cells #[.int .i64 oj, .int .i64 aj] 37)).cell? ((⟨W8.heap.size, 0, none⟩ : Addr).add j) = some u) := hid (fun j u hj => new_cells _ #[.int .i64 oj, .int .i64 aj] _ j u (by simpa using hj))
              have hsz : w2.heap.size ≤ (W8.alloc (.cells #[.int .i64 oj, .int .i64 aj] 37)).heap.size := HB6.out.size
              go_wp2_with (at_builtin; refine wpList_append_own _ rfl _ _ 22 rfl w2.heap.size 37 i0 (.agg #[.int .i64 0, .int .i64 0]) 2 16 Tryd.underlying22 hi hz0 hz1 hz2 rfl (by decide) _ _ _ rfl HO6.out ⟨W8.heap.size, 0, none⟩ 1 1 [.int .i64 oj, .int .i64 aj] rfl rfl HC.out (by intro u hu; simp at hu; rcases hu with rfl | rfl <;> rfl) (by unfold maxLen; omega) (by omega) hsz ?_; intro v' w5 hown5 hg5 _; have HO7 : Hid (w5.ownsRow w2.heap.size 37 2 v' (Q ++ [(oj, aj)]).length (insCells (Q ++ [(oj, aj)]))) := hid (by rw [insCells_snoc, List.length_append]; exact hown5); have HB7 := hid (HB6.out.grown hg5 HB6.out.size (fun k hk => (HO6.out.lt k hk).1)); clear hown5 hg5)
              go_roundw
              case rel => exact ⟨k + 1, by omega, by go_num, by rw [HT2.out]; exact HO7, HB7⟩
              case measure => simp [RowKit.intOf] <;> omega
          · have dj : decide (o = 15 ∨ o = 16) = false := decide_eq_false hj
            have HTI : Hid (tmI l S k = (o, a)) := hid (by unfold tmI opAt; rw [HOA.out, if_neg hj])
            clear hj
            have HT2 : Hid (tmTo l S (k + 1) = tmTo l S k ++ [(o, a)]) := hid (by rw [HT.out, HTI.out])
            have hql := tmTo_le l S k
            obtain ⟨Q, hQ⟩ : ∃ Q, tmTo l S k = Q := ⟨_, rfl⟩
            rw [hQ] at hql HT2 HO5
            clear hQ
            have HO6 := hid (HO5.out.alloc (.cells #[.int .i64 o, .int .i64 a] 37))
            have HB6 := hid (HB5.out.alloc HB5.out.size (.cells #[.int .i64 o, .int .i64 a] 37))
            have HC : Hid (∀ j u, [Value.int .i64 o, Value.int .i64 a][j]? = some u → (w3.alloc (.cells #[.int .i64 o, .int .i64 a] 37)).cell? ((⟨w3.heap.size, 0, none⟩ : Addr).add j) = some u) := hid (fun j u hj => new_cells _ #[.int .i64 o, .int .i64 a] _ j u (by simpa using hj))
            have hsz : w2.heap.size ≤ (w3.alloc (.cells #[.int .i64 o, .int .i64 a] 37)).heap.size := HB6.out.size
            go_wp2_with (at_builtin; refine wpList_append_own _ rfl _ _ 22 rfl w2.heap.size 37 i0 (.agg #[.int .i64 0, .int .i64 0]) 2 16 Tryd.underlying22 hi hz0 hz1 hz2 rfl (by decide) _ _ _ rfl HO6.out ⟨w3.heap.size, 0, none⟩ 1 1 [.int .i64 o, .int .i64 a] rfl rfl HC.out (by intro u hu; simp at hu; rcases hu with rfl | rfl <;> rfl) (by unfold maxLen; omega) (by omega) hsz ?_; intro v' w5 hown5 hg5 _; have HO7 : Hid (w5.ownsRow w2.heap.size 37 2 v' (Q ++ [(o, a)]).length (insCells (Q ++ [(o, a)]))) := hid (by rw [insCells_snoc, List.length_append]; exact hown5); have HB7 := hid (HB6.out.grown hg5 HB6.out.size (fun k hk => (HO6.out.lt k hk).1)); clear hown5 hg5)
            go_roundw
            case rel => exact ⟨k + 1, by omega, by go_num, by rw [HT2.out]; exact HO7, HB7⟩
            case measure => simp [RowKit.intOf] <;> omega
      · obtain rfl : k = l.length := by omega
        have HX := hid (SlV.of_own HO.out)
        go_wp2_with fail
        go_ret2
        exact ⟨_, rfl, by show SlV _ _ _ (tmTo l (stTo l D l.length) l.length); rw [HS.out]; exact HX.out, HB2.out.trans (HBR.out.mono HB2.out.size)⟩

end Go.Proofs.YtfohdoahddommaaDoor
