/- Layer 5, check: Check, Safe, Passes. -/
import Derived.Test.YtfohdoahddommaaDoorChkD
namespace Go.Proofs.YtfohdoahddommaaDoor
open Go.RowKit
set_option linter.unusedVariables false
set_option maxRecDepth 100000

/-- A report, its depths in v. -/
abbrev repV (v : Value) (mx em : Int) (u0 u1 : Bool) : Value := .agg #[v, .int .i64 mx, .int .i64 em, .bool u0, .bool u1]

def ChkPost (W : World) (q : Option CkS) (r : Ending) (w' : World) : Prop :=
  match q with
  | some s => ∃ v, r = .returned (.tuple #[repV v s.mx s.em s.u0 s.u1, .int .i64 0]) ∧ SlI w' w'.heap.size .i64 v s.D ∧ Below W.heap.size W w'
  | none => r = .returned (.tuple #[repV (.slice none 0 0) 0 0 false false, .int .i64 9]) ∧ Below W.heap.size W w'

theorem box5_of (w : World) (t : TypeId) (a b c d e : Value) : ∃ W : World, w.alloc (.cells #[a, b, c, d, e] t) = W ∧
    (W.cell? ⟨w.heap.size, 0, none⟩ = some a ∧ W.cell? ⟨w.heap.size, 1, none⟩ = some b ∧ W.cell? ⟨w.heap.size, 2, none⟩ = some c ∧ W.cell? ⟨w.heap.size, 3, none⟩ = some d ∧ W.cell? ⟨w.heap.size, 4, none⟩ = some e) ∧
    (∀ j, W.frozen? ⟨w.heap.size, j, none⟩ = false) ∧ W.heap.size = w.heap.size + 1 ∧ Hid (Below w.heap.size w W) := by
  refine ⟨_, rfl, ⟨?_, ?_, ?_, ?_, ?_⟩, fun j => ?_, ?_, hid ((Below.refl _ w).alloc (Nat.le_refl _) _)⟩
  all_goals simp [World.frozen?_alloc_new]

theorem below_set5 {B g : Nat} {w w' : World} (h : Below B w w') (hg : B ≤ g) (a b c d e : Value) : Below B w (((((w'.setCell ⟨g, 0, none⟩ a).setCell ⟨g, 1, none⟩ b).setCell ⟨g, 2, none⟩ c).setCell ⟨g, 3, none⟩ d).setCell ⟨g, 4, none⟩ e) :=
  ((((h.setCell hg _).setCell hg _).setCell hg _).setCell hg _).setCell hg _

theorem set5_other {g x : Nat} (w : World) (j : Nat) (h : x ≠ g) (a b c d e : Value) : (((((w.setCell ⟨g, 0, none⟩ a).setCell ⟨g, 1, none⟩ b).setCell ⟨g, 2, none⟩ c).setCell ⟨g, 3, none⟩ d).setCell ⟨g, 4, none⟩ e).cell? ⟨x, j, none⟩ = w.cell? ⟨x, j, none⟩ := by
  have o : ∀ (w : World) (i : Nat) (v : Value), (w.setCell ⟨g, i, none⟩ v).cell? ⟨x, j, none⟩ = w.cell? ⟨x, j, none⟩ := fun w i v => World.cell?_setCell_other _ _ _ _ (by intro e; injection e with e1; exact h e1.symm)
  rw [o, o, o, o, o]

theorem chkTo_skip {l : List (Int × Int)} {k : Nat} {s : CkS} (h : chkTo l k = some s) (hd : s.D.getD k 0 = -1) : chkTo l (k + 1) = some s := by
  unfold chkTo; rw [h, Option.bind_some, if_pos hd]

theorem chkTo_pass {l : List (Int × Int)} {k : Nat} {s : CkS} (h : chkTo l k = some s) (hd : s.D.getD k 0 ≠ -1) : chkTo l (k + 1) = passS s k (opAt l k) (arAt l k) := by
  unfold chkTo; rw [h, Option.bind_some, if_neg hd]

theorem chkTo_none {l : List (Int × Int)} {k : Nat} (h : chkTo l k = none) : ∀ m, k ≤ m → chkTo l m = none := by
  intro m hm
  induction m with
  | zero => obtain rfl : k = 0 := by omega
            exact h
  | succ m ih =>
    by_cases e : k = m + 1
    · subst e; exact h
    · unfold chkTo; rw [ih (by omega)]; rfl

theorem ins_right {l : List (Int × Int)} (hf : fitsL l = true) {k : Nat} (hk : k < l.length) {o a : Int} (h : l.getD k (0, 0) = (o, a)) : rightI (o, a) = true := by
  have h2 := ((fitsL_iff l).1 hf).2
  rw [List.getD_eq_getElem?_getD, List.getElem?_eq_getElem hk] at h
  rw [← h]
  exact List.all_eq_true.1 h2 _ (List.getElem_mem hk)

theorem WkAt.sli {w w' : World} {b bD bE bM c : Nat} {A : Option Addr} {s : CkS} (h : WkAt w b bD bE bM A c s) (hk : ∀ j, w'.cell? ⟨bD, j, none⟩ = w.cell? ⟨bD, j, none⟩) (hs : w.heap.size ≤ w'.heap.size) : SlI w' w'.heap.size .i64 (.slice A s.D.length c) s.D := by
  refine ⟨A, c, rfl, h.hc, fun hp => ⟨bD, 0, h.lA hp, ?_, fun j hj => ?_⟩⟩
  · have := h.ltD hp; omega
  · rw [Nat.zero_add, hk]; exact h.cD j hj

theorem chkpost_ok {W w' : World} {q : Option CkS} {s : CkS} {v : Value} (h : Hid (q = some s)) (h1 : SlI w' w'.heap.size .i64 v s.D) (h2 : Below W.heap.size W w') : ChkPost W q (.returned (.tuple #[repV v s.mx s.em s.u0 s.u1, .int .i64 0])) w' := by
  rw [h.out]; exact ⟨v, rfl, h1, h2⟩

theorem chkpost_no {W w' : World} {q : Option CkS} (h : Hid (q = none)) (h2 : Below W.heap.size W w') : ChkPost W q (.returned (.tuple #[repV (.slice none 0 0) 0 0 false false, .int .i64 9])) w' := by
  rw [h.out]; exact ⟨rfl, h2⟩

theorem chk_bounds {l : List (Int × Int)} {k : Nat} {s : CkS} (h : chkTo l k = some s) (hk : k < l.length) : s.D.length = l.length ∧ (s.D.getD k 0 ≠ -1 → (0 ≤ s.D.getD k 0 ∧ s.D.getD k 0 ≤ 8) ∧ 0 ≤ s.E.getD k 0 ∧ s.E.getD k 0 ≤ 4) := by
  have I := (inv_to l k (by omega)).1 s h
  refine ⟨I.lenD, fun hne => ?_⟩
  obtain ⟨_, ⟨b1, b2, b3, b4, _⟩, _⟩ := inv_here I hk hne
  exact ⟨⟨b1, b2⟩, b3, b4⟩

set_option maxRecDepth 100000 in
set_option maxHeartbeats 1500000 in
theorem check_any (v : Value) (l : List (Int × Int)) (q : Option CkS) (hq : Hid (chk l = q)) (hl : l.length ≤ 1000000000000) (w : World) (hv : SlV w w.heap.size v l) :
    Calls Tryd.prog 29 #[v] w fun e w' => ChkPost w q e w' := by
  have HV := hid hv
  obtain ⟨A0, c0, rfl, hc0, hA⟩ := hv
  have HA := hid hA; clear hA
  cases hf : fitsL l with
  | false =>
    have HF := hid hf
    obtain rfl : none = q := by rw [← hq.out]; unfold chk; rw [if_neg (by rw [hf]; simp)]
    clear hf hq
    go_enter Tryd.func29, Tryd.ntmps29
    go_wp2_with fail
    obtain ⟨W, hW, ⟨r0, r1, r2, r3, r4⟩, rf, rs, HW⟩ := box5_of w 68 (.slice none 0 0) (.int .i64 0) (.int .i64 0) (.bool false) (.bool false)
    rw [hW]; clear hW
    refine (fits_any _ l false HF hl W (HV.out.below HW.out |>.mono (by omega))).mono ?_
    rintro e w1 ⟨rfl, hb⟩
    obtain ⟨hc, hf⟩ := bcell hb
    have lw : w.heap.size < W.heap.size := by omega
    have r0 := (hc _ _ lw).trans r0
    have r1 := (hc _ _ lw).trans r1
    have r2 := (hc _ _ lw).trans r2
    have r3 := (hc _ _ lw).trans r3
    have r4 := (hc _ _ lw).trans r4
    have g0 := (hf _ _ lw).trans (rf 0)
    have g1 := (hf _ _ lw).trans (rf 1)
    have g2 := (hf _ _ lw).trans (rf 2)
    have g3 := (hf _ _ lw).trans (rf 3)
    have g4 := (hf _ _ lw).trans (rf 4)
    have HB := hid (HW.out.trans (hb.mono HW.out.size))
    clear hc hf hb rf
    go_wp2_with fail
    refine bodyPost_ret (v := .tuple #[repV (.slice none 0 0) 0 0 false false, .int .i64 9]) (by simp [results, Tryd.results29, go_sem, r0, r1, r2, r3, r4]) rfl (chkpost_no (hid rfl) (below_set5 HB.out (Nat.le_refl _) _ _ _ _ _))
  | true =>
    have HF := hid hf
    have HQ : Hid (chkTo l l.length = q) := hid (by rw [← hq.out]; unfold chk; rw [if_pos hf])
    have h24 := ((fitsL_iff l).1 hf).1
    clear hf hq
    go_enter Tryd.func29, Tryd.ntmps29
    go_wp2_with fail
    obtain ⟨W, hW, ⟨r0, r1, r2, r3, r4⟩, rf, rs, HW⟩ := box5_of w 68 (.slice none 0 0) (.int .i64 0) (.int .i64 0) (.bool false) (.bool false)
    rw [hW]; clear hW
    refine (fits_any _ l true HF hl W (HV.out.below HW.out |>.mono (by omega))).mono ?_
    rintro e w1 ⟨rfl, hb⟩
    have HB1 := hid hb; clear hb
    go_wp2_with fail
    refine (start_any l.length (by omega) w1).mono ?_
    rintro e w2 ⟨b, bD, bE, bM, A, c, rfl, hwk, hb, gb, gD, gE⟩
    have HWK := hid hwk
    have HB2 := hid (HB1.out.trans (hb.mono HB1.out.size))
    have hw1 := HB1.out.size
    clear hwk hb HB1
    go_wp2_with fail
    go_loopw [16] (fun i wr => ∃ (k : Nat) (s : CkS), k ≤ l.length ∧ i = .int .i64 k ∧ Hid (chkTo l k = some s) ∧ Hid (WkAt wr b bD bE bM A c s) ∧ Hid (Below W.heap.size W wr)) (fun i _ => l.length - (RowKit.intOf i).toNat)
    case atStart => exact ⟨0, _, Nat.zero_le _, rfl, hid rfl, HWK, HB2⟩
    case round =>
      clear HWK HB2
      obtain ⟨k, s, hk, rfl, hto, hwk, hbel⟩ := hrel
      by_cases hlt : k < l.length
      · obtain ⟨hln, hbd⟩ := chk_bounds hto.out hlt
        obtain ⟨b1, o1, rfl, hbB, hcell⟩ := HA.out (by omega)
        obtain ⟨ca, cb⟩ := hcell k hlt
        obtain ⟨o, a, hoa⟩ := pair_of (p := l.getD k (0, 0))
        rw [hoa] at ca cb
        have HR := hid (ins_right HF.out hlt hoa)
        have HO : Hid (opAt l k = o ∧ arAt l k = a) := hid (by unfold opAt arAt; rw [hoa]; exact ⟨rfl, rfl⟩)
        clear hoa hcell
        have hbW := Nat.lt_of_lt_of_le hbB HW.out.size
        have ca' := (hbel.out.cell (p := ⟨b1, o1 + k * 2, none⟩) hbW).trans ((HW.out.cell (p := ⟨b1, o1 + k * 2, none⟩) hbB).trans ca)
        have cb' := (hbel.out.cell (p := ⟨b1, o1 + k * 2 + 1, none⟩) hbW).trans ((HW.out.cell (p := ⟨b1, o1 + k * 2 + 1, none⟩) hbB).trans cb)
        clear ca cb
        obtain rfl := hwk.out.lA (by omega)
        go_upto_region 7 with fail
        obtain ⟨V, hV, ⟨j0, j1⟩, l0, HV2⟩ := box1_of wr 37 (.int .i64 o) (.int .i64 a)
        rw [hV]; clear hV
        have HWV := hid (hwk.out.below (by omega) HV2.out)
        have HBV := hid (hbel.out.trans (HV2.out.mono hbel.out.size))
        clear hwk hbel ca' cb'
        have c0 := HWV.out.c0
        have d0 := HWV.out.cD k (by omega)
        have hcc := HWV.out.hc
        rw [hln] at c0 hcc
        obtain ⟨x, hx⟩ : ∃ x, s.D.getD k 0 = x := ⟨_, rfl⟩
        rw [hx] at d0 hbd
        by_cases hx1 : x = -1
        · have HN : Hid (chkTo l (k + 1) = some s) := hid (chkTo_skip hto.out (hx.trans hx1))
          subst hx1
          clear hx hbd hln
          go_wp2_with fail
          go_roundw
          case rel => exact ⟨k + 1, s, by omega, by go_num, HN, HWV, HBV⟩
          case measure => simp [RowKit.intOf]; omega
        · have HN : Hid (chkTo l (k + 1) = passS s k o a) := hid (by rw [chkTo_pass hto.out (fun e => hx1 (hx ▸ e)), HO.out.1, HO.out.2])
          have hb1 := hid ((hbd hx1).1); have hb2 := hid ((hbd hx1).2)
          rw [← hx] at hb1
          have hxn : (x == -1) = false := by simpa using hx1
          have hxm : (x != -1) = true := by simpa using hx1
          have HLN := hid hln
          clear hbd hx hln
          go_wp2_with fail
          clear hx1 hxn hxm
          refine (pass_any b bD bE bM c _ s k o a V HWV.out (by rw [HLN.out]; exact hlt) (by rw [HLN.out]; omega) HR hb1 hb2).mono ?_
          rintro e w4 ⟨β, rfl, hp, hb⟩
          have HB4 := hid (HBV.out.trans (hb W.heap.size (by omega) (by omega) (by omega) HBV.out.size))
          clear hb HWV HBV hb1 hb2
          cases hps : passS s k o a with
          | some s' =>
            rw [hps] at hp HN
            obtain ⟨rfl, hw4⟩ := hp
            have HW4 := hid hw4
            clear hw4 hps
            go_wp2_with fail
            go_roundw
            case rel => exact ⟨k + 1, s', by omega, by go_num, HN, HW4, HB4⟩
            case measure => simp [RowKit.intOf]; omega
          | none =>
            rw [hps] at hp HN
            obtain rfl : β = false := hp
            have HQN : Hid (q = none) := hid (by rw [← HQ.out]; exact chkTo_none HN.out _ (by omega))
            have HBW := hid (HW.out.trans (HB4.out.mono HW.out.size))
            clear hps c0 d0 j0 j1
            obtain ⟨hc, hf⟩ := bcell HB4.out
            have lw : w.heap.size < W.heap.size := by omega
            have r0 := (hc _ _ lw).trans r0
            have r1 := (hc _ _ lw).trans r1
            have r2 := (hc _ _ lw).trans r2
            have r3 := (hc _ _ lw).trans r3
            have r4 := (hc _ _ lw).trans r4
            have g0 := (hf _ _ lw).trans (rf 0)
            have g1 := (hf _ _ lw).trans (rf 1)
            have g2 := (hf _ _ lw).trans (rf 2)
            have g3 := (hf _ _ lw).trans (rf 3)
            have g4 := (hf _ _ lw).trans (rf 4)
            clear hc hf rf
            go_wp2_with fail
            refine bodyPost_ret (v := .tuple #[repV (.slice none 0 0) 0 0 false false, .int .i64 9]) (by simp [results, Tryd.results29, go_sem, r0, r1, r2, r3, r4]) rfl (chkpost_no HQN (below_set5 HBW.out (Nat.le_refl _) _ _ _ _ _))
      · obtain rfl : k = l.length := by omega
        have HQS : Hid (q = some s) := hid (by rw [← HQ.out]; exact hto.out)
        have HBW := hid (HW.out.trans (hbel.out.mono HW.out.size))
        obtain ⟨hc, hf⟩ := bcell hbel.out
        have lw : w.heap.size < W.heap.size := by omega
        have r0 := (hc _ _ lw).trans r0
        have r1 := (hc _ _ lw).trans r1
        have r2 := (hc _ _ lw).trans r2
        have r3 := (hc _ _ lw).trans r3
        have r4 := (hc _ _ lw).trans r4
        have g0 := (hf _ _ lw).trans (rf 0)
        have g1 := (hf _ _ lw).trans (rf 1)
        have g2 := (hf _ _ lw).trans (rf 2)
        have g3 := (hf _ _ lw).trans (rf 3)
        have g4 := (hf _ _ lw).trans (rf 4)
        have c0 := hwk.out.c0; have c1 := hwk.out.c1; have c2 := hwk.out.c2; have c3 := hwk.out.c3; have c4 := hwk.out.c4
        have HSL : Hid (∀ a1 a2 a3 a4 a5, SlI (((((wr.setCell ⟨w.heap.size, 0, none⟩ a1).setCell ⟨w.heap.size, 1, none⟩ a2).setCell ⟨w.heap.size, 2, none⟩ a3).setCell ⟨w.heap.size, 3, none⟩ a4).setCell ⟨w.heap.size, 4, none⟩ a5) (((((wr.setCell ⟨w.heap.size, 0, none⟩ a1).setCell ⟨w.heap.size, 1, none⟩ a2).setCell ⟨w.heap.size, 2, none⟩ a3).setCell ⟨w.heap.size, 3, none⟩ a4).setCell ⟨w.heap.size, 4, none⟩ a5).heap.size .i64 (.slice A s.D.length c) s.D) :=
          hid (fun a1 a2 a3 a4 a5 => hwk.out.sli (fun j => set5_other wr j (by omega) _ _ _ _ _) (by simp))
        clear hc hf rf
        go_wp2_with fail
        refine bodyPost_ret (v := .tuple #[repV (.slice A s.D.length c) s.mx s.em s.u0 s.u1, .int .i64 0]) (by simp [results, Tryd.results29, go_sem, r0, r1, r2, r3, r4]) rfl (chkpost_ok HQS (HSL.out _ _ _ _ _) (below_set5 HBW.out (Nat.le_refl _) _ _ _ _ _))

theorem chkpost_below {W w' : World} {q : Option CkS} {r : Ending} (h : ChkPost W q r w') : Below W.heap.size W w' := by
  cases q with
  | none => exact h.2
  | some s => obtain ⟨v, _, _, h⟩ := h; exact h

def safeB (q : Option CkS) : Bool := q.isSome

set_option maxHeartbeats 1000000 in
theorem safe_any (v : Value) (l : List (Int × Int)) (β : Bool) (hβ : Hid ((chk l).isSome = β)) (hl : l.length ≤ 1000000000000) (w : World) (hv : SlV w w.heap.size v l) :
    Calls Tryd.prog 18 #[v] w fun e w' => e = .returned (.bool β) ∧ Below w.heap.size w w' := by
  obtain ⟨q, hq⟩ : ∃ q, chk l = q := ⟨_, rfl⟩
  rw [hq] at hβ
  have HQ := hid hq; clear hq
  have HV := hid hv; clear hv
  go_enter Tryd.func18, Tryd.ntmps18
  go_wp2_with fail
  refine (check_any v l q HQ hl w HV.out).mono ?_
  intro e w1 hp
  cases q with
  | none =>
    obtain ⟨rfl, hb⟩ := hp
    have HB := hid hb; clear hb
    obtain rfl : false = β := by rw [← hβ.out]; rfl
    go_wp2_with fail
    go_ret
    exact ⟨rfl, HB.out.alloc HB.out.size _⟩
  | some s =>
    obtain ⟨v1, rfl, hsl, hb⟩ := hp
    have HB := hid hb; clear hb
    obtain rfl : true = β := by rw [← hβ.out]; rfl
    obtain ⟨A, c, rfl, _, _⟩ := hsl
    obtain ⟨D, E, mx, em, u0, u1⟩ := s
    go_wp2_with fail
    go_ret
    exact ⟨rfl, HB.out.alloc HB.out.size _⟩

theorem eql_flags (a b c d : Bool) (w : World) : (binOp .eql 66 (.agg #[.bool a, .bool b]) (.agg #[.bool c, .bool d])).run Tryd.prog w = .ok (.bool ((a == c) && (b == d))) w := by
  cases a <;> cases b <;> cases c <;> cases d <;> kernel_rfl

def passesB (q : Option CkS) : Bool := match q with
  | some s => (s.u0 == false) && (s.u1 == false)
  | none => false

end Go.Proofs.YtfohdoahddommaaDoor
