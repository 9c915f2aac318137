/- Layer 5, check: Check, Safe, Passes. -/
import Derived.Test.YtfhlpbjdcdagjaaGreatDoorHaj
import Derived.Test.YtfhlpbjdcdagjaaGreatDoorHah
namespace Go.Proofs.YtfhlpbjdcdagjaaGreatDoor
open Go.RowKit
set_option linter.unusedVariables false
set_option maxRecDepth 100000

/-- A report, its depths in v. -/
abbrev repV (v : Value) (mx em : Int) (u0 u1 : Bool) : Value := .agg #[v, .int .i64 mx, .int .i64 em, .bool u0, .bool u1]

def ChkPost (W : World) (q : Option CkS) (r : Ending) (w' : World) : Prop :=
  match q with
  | some s => ∃ v, r = .returned (.tuple #[repV v s.mx s.em s.u0 s.u1, .int .i64 0]) ∧ SlI w' w'.heap.size .i64 v s.D ∧ Below W.heap.size W w'
  | none => r = .returned (.tuple #[repV (.slice none 0 0) 0 0 false false, .int .i64 9]) ∧ Below W.heap.size W w'

theorem box5_of (w : World) (t : TypeId) (a b c d e : Value) : ∃ W : World, w.alloc (.cells #[a, b, c, d, e] t) = W ∧
    (W.cell? ⟨w.heap.size, 0, none⟩ = some a ∧ W.cell? ⟨w.heap.size, 1, none⟩ = some b ∧ W.cell? ⟨w.heap.size, 2, none⟩ = some c ∧ W.cell? ⟨w.heap.size, 3, none⟩ = some d ∧ W.cell? ⟨w.heap.size, 4, none⟩ = some e) ∧
    (∀ j, W.frozen? ⟨w.heap.size, j, none⟩ = false) ∧ W.heap.size = w.heap.size + 1 ∧ Hid (Below w.heap.size w W) := by
  refine ⟨_, rfl, ⟨?_, ?_, ?_, ?_, ?_⟩, fun j => ?_, ?_, hid ((Below.refl _ w).alloc (Nat.le_refl _) _)⟩
  all_goals simp [World.frozen?_alloc_new]

theorem below_set5 {B g : Nat} {w w' : World} (h : Below B w w') (hg : B ≤ g) (a b c d e : Value) : Below B w (((((w'.setCell ⟨g, 0, none⟩ a).setCell ⟨g, 1, none⟩ b).setCell ⟨g, 2, none⟩ c).setCell ⟨g, 3, none⟩ d).setCell ⟨g, 4, none⟩ e) :=
  ((((h.setCell hg _).setCell hg _).setCell hg _).setCell hg _).setCell hg _

theorem set5_other {g x : Nat} (w : World) (j : Nat) (h : x ≠ g) (a b c d e : Value) : (((((w.setCell ⟨g, 0, none⟩ a).setCell ⟨g, 1, none⟩ b).setCell ⟨g, 2, none⟩ c).setCell ⟨g, 3, none⟩ d).setCell ⟨g, 4, none⟩ e).cell? ⟨x, j, none⟩ = w.cell? ⟨x, j, none⟩ := by
  have o : ∀ (w : World) (i : Nat) (v : Value), (w.setCell ⟨g, i, none⟩ v).cell? ⟨x, j, none⟩ = w.cell? ⟨x, j, none⟩ := fun w i v => World.cell?_setCell_other _ _ _ _ (by intro e; injection e with e1; exact h e1.symm)
  rw [o, o, o, o, o]

theorem chkTo_skip {l : List (Int × Int)} {k : Nat} {s : CkS} (h : chkTo l k = some s) (hd : s.D.getD k 0 = -1) : chkTo l (k + 1) = some s := by
  unfold chkTo; rw [h, Option.bind_some, if_pos hd]

theorem chkTo_pass {l : List (Int × Int)} {k : Nat} {s : CkS} (h : chkTo l k = some s) (hd : s.D.getD k 0 ≠ -1) : chkTo l (k + 1) = passS s k (opAt l k) (arAt l k) := by
  unfold chkTo; rw [h, Option.bind_some, if_neg hd]

theorem chkTo_none {l : List (Int × Int)} {k : Nat} (h : chkTo l k = none) : ∀ m, k ≤ m → chkTo l m = none := by
  intro m hm
  induction m with
  | zero => obtain rfl : k = 0 := by omega
            exact h
  | succ m ih =>
    by_cases e : k = m + 1
    · subst e; exact h
    · unfold chkTo; rw [ih (by omega)]; rfl

theorem ins_right {l : List (Int × Int)} (hf : fitsL l = true) {k : Nat} (hk : k < l.length) {o a : Int} (h : l.getD k (0, 0) = (o, a)) : rightI (o, a) = true := by
  have h2 := ((fitsL_iff l).1 hf).2
  rw [List.getD_eq_getElem?_getD, List.getElem?_eq_getElem hk] at h
  rw [← h]
  exact List.all_eq_true.1 h2 _ (List.getElem_mem hk)

theorem WkAt.sli {w w' : World} {b bD bE bM c : Nat} {A : Option Addr} {s : CkS} (h : WkAt w b bD bE bM A c s) (hk : ∀ j, w'.cell? ⟨bD, j, none⟩ = w.cell? ⟨bD, j, none⟩) (hs : w.heap.size ≤ w'.heap.size) : SlI w' w'.heap.size .i64 (.slice A s.D.length c) s.D := by
  refine ⟨A, c, rfl, h.hc, fun hp => ⟨bD, 0, h.lA hp, ?_, fun j hj => ?_⟩⟩
  · have := h.ltD hp; omega
  · rw [Nat.zero_add, hk]; exact h.cD j hj

theorem chkpost_ok {W w' : World} {q : Option CkS} {s : CkS} {v : Value} (h : Hid (q = some s)) (h1 : SlI w' w'.heap.size .i64 v s.D) (h2 : Below W.heap.size W w') : ChkPost W q (.returned (.tuple #[repV v s.mx s.em s.u0 s.u1, .int .i64 0])) w' := by
  rw [h.out]; exact ⟨v, rfl, h1, h2⟩

theorem chkpost_no {W w' : World} {q : Option CkS} (h : Hid (q = none)) (h2 : Below W.heap.size W w') : ChkPost W q (.returned (.tuple #[repV (.slice none 0 0) 0 0 false false, .int .i64 9])) w' := by
  rw [h.out]; exact ⟨rfl, h2⟩

theorem chk_bounds {l : List (Int × Int)} {k : Nat} {s : CkS} (h : chkTo l k = some s) (hk : k < l.length) : s.D.length = l.length ∧ (s.D.getD k 0 ≠ -1 → (0 ≤ s.D.getD k 0 ∧ s.D.getD k 0 ≤ 8) ∧ 0 ≤ s.E.getD k 0 ∧ s.E.getD k 0 ≤ 4) := by
  have I := (inv_to l k (by omega)).1 s h
  refine ⟨I.lenD, fun hne => ?_⟩
  obtain ⟨_, ⟨b1, b2, b3, b4, _⟩, _⟩ := inv_here I hk hne
  exact ⟨⟨b1, b2⟩, b3, b4⟩

set_option maxRecDepth 100000 in
set_option maxHeartbeats 1500000 in
theorem check_any (v : Value) (l : List (Int × Int)) (q : Option CkS) (hq : Hid (chk l = q)) (hl : l.length ≤ 1000000000000) (w : World) (hv : SlV w w.heap.size v l) :
    Calls Tryz.prog 87 #[v] w fun e w' => ChkPost w q e w' := by
  have HV := hid hv
  obtain ⟨A0, c0, rfl, hc0, hA⟩ := hv
  have HA := hid hA; clear hA
  cases hf : fitsL l with
  | false =>
    have HF := hid hf
    obtain rfl : none = q := by rw [← hq.out]; unfold chk; rw [if_neg (by rw [hf]; simp)]
    clear hf hq
    go_enter Tryz.func87, Tryz.ntmps87
    go_wp2_with fail
    obtain ⟨W, hW, ⟨r0, r1, r2, r3, r4⟩, rf, rs, HW⟩ := box5_of w 146 (.slice none 0 0) (.int .i64 0) (.int .i64 0) (.bool false) (.bool false)
    rw [hW]; clear hW
    refine (fits_any _ l false HF hl W (HV.out.below HW.out |>.mono (by omega))).mono ?_
    rintro e w1 ⟨rfl, hb⟩
    obtain ⟨hc, hf⟩ := bcell hb
    have lw : w.heap.size < W.heap.size := by omega
    have r0 := (hc _ _ lw).trans r0
    have r1 := (hc _ _ lw).trans r1
    have r2 := (hc _ _ lw).trans r2
    have r3 := (hc _ _ lw).trans r3
    have r4 := (hc _ _ lw).trans r4
    have g0 := (hf _ _ lw).trans (rf 0)
    have g1 := (hf _ _ lw).trans (rf 1)
    have g2 := (hf _ _ lw).trans (rf 2)
    have g3 := (hf _ _ lw).trans (rf 3)
    have g4 := (hf _ _ lw).trans (rf 4)
    have HB := hid (HW.out.trans (hb.mono HW.out.size))
    clear hc hf hb rf
    go_wp2_with fail
    refine bodyPost_ret (v := .tuple #[repV (.slice none 0 0) 0 0 false false, .int .i64 9]) (by simp [results, Tryz.results87, go_sem, r0, r1, r2, r3, r4]) rfl (chkpost_no (hid rfl) (below_set5 HB.out (Nat.le_refl _) _ _ _ _ _))
  | true =>
    have HF := hid hf
    have HQ : Hid (chkTo l l.length = q) := hid (by rw [← hq.out]; unfold chk; rw [if_pos hf])
    have h24 := ((fitsL_iff l).1 hf).1
    clear hf hq
    go_enter Tryz.func87, Tryz.ntmps87
    go_wp2_with fail
    obtain ⟨W, hW, ⟨r0, r1, r2, r3, r4⟩, rf, rs, HW⟩ := box5_of w 146 (.slice none 0 0) (.int .i64 0) (.int .i64 0) (.bool false) (.bool false)
    rw [hW]; clear hW
    refine (fits_any _ l true HF hl W (HV.out.below HW.out |>.mono (by omega))).mono ?_
    rintro e w1 ⟨rfl, hb⟩
    have HB1 := hid hb; clear hb
    go_wp2_with fail
    refine (start_any l.length (by omega) w1).mono ?_
    rintro e w2 ⟨b, bD, bE, bM, A, c, rfl, hwk, hb, gb, gD, gE⟩
    have HWK := hid hwk
    have HB2 := hid (HB1.out.trans (hb.mono HB1.out.size))
    have hw1 := HB1.out.size
    clear hwk hb HB1
    go_wp2_with fail
    go_loopw [16] (fun i wr => ∃ (k : Nat) (s : CkS), k ≤ l.length ∧ i = .int .i64 k ∧ Hid (chkTo l k = some s) ∧ Hid (WkAt wr b bD bE bM A c s) ∧ Hid (Below W.heap.size W wr)) (fun i _ => l.length - (RowKit.intOf i).toNat)
    case atStart => exact ⟨0, _, Nat.zero_le _, rfl, hid rfl, HWK, HB2⟩
    case round =>
      clear HWK HB2
      obtain ⟨k, s, hk, rfl, hto, hwk, hbel⟩ := hrel
      by_cases hlt : k < l.length
      · obtain ⟨hln, hbd⟩ := chk_bounds hto.out hlt
        obtain ⟨b1, o1, rfl, hbB, hcell⟩ := HA.out (by omega)
        obtain ⟨ca, cb⟩ := hcell k hlt
        obtain ⟨o, a, hoa⟩ := pair_of (p := l.getD k (0, 0))
        rw [hoa] at ca cb
        have HR := hid (ins_right HF.out hlt hoa)
        have HO : Hid (opAt l k = o ∧ arAt l k = a) := hid (by unfold opAt arAt; rw [hoa]; exact ⟨rfl, rfl⟩)
        clear hoa hcell
        have hbW := Nat.lt_of_lt_of_le hbB HW.out.size
        have ca' := (hbel.out.cell (p := ⟨b1, o1 + k * 2, none⟩) hbW).trans ((HW.out.cell (p := ⟨b1, o1 + k * 2, none⟩) hbB).trans ca)
        have cb' := (hbel.out.cell (p := ⟨b1, o1 + k * 2 + 1, none⟩) hbW).trans ((HW.out.cell (p := ⟨b1, o1 + k * 2 + 1, none⟩) hbB).trans cb)
        clear ca cb
        obtain rfl := hwk.out.lA (by omega)
        go_upto_region 7 with fail
        obtain ⟨V, hV, ⟨j0, j1⟩, l0, HV2⟩ := box1_of wr 88 (.int .i64 o) (.int .i64 a)
        rw [hV]; clear hV
        have HWV := hid (hwk.out.below (by omega) HV2.out)
        have HBV := hid (hbel.out.trans (HV2.out.mono hbel.out.size))
        clear hwk hbel ca' cb'
        have c0 := HWV.out.c0
        have d0 := HWV.out.cD k (by omega)
        have hcc := HWV.out.hc
        rw [hln] at c0 hcc
        obtain ⟨x, hx⟩ : ∃ x, s.D.getD k 0 = x := ⟨_, rfl⟩
        rw [hx] at d0 hbd
        by_cases hx1 : x = -1
        · have HN : Hid (chkTo l (k + 1) = some s) := hid (chkTo_skip hto.out (hx.trans hx1))
          subst hx1
          clear hx hbd hln
          go_wp2_with fail
          go_roundw
          case rel => exact ⟨k + 1, s, by omega, by go_num, HN, HWV, HBV⟩
          case measure => simp [RowKit.intOf]; omega
        · have HN : Hid (chkTo l (k + 1) = passS s k o a) := hid (by rw [chkTo_pass hto.out (fun e => hx1 (hx ▸ e)), HO.out.1, HO.out.2])
          have hb1 := hid ((hbd hx1).1); have hb2 := hid ((hbd hx1).2)
          rw [← hx] at hb1
          have hxn : (x == -1) = false := by simpa using hx1
          have hxm : (x != -1) = true := by simpa using hx1
          have HLN := hid hln
          clear hbd hx hln
          go_wp2_with fail
          clear hx1 hxn hxm
          refine (pass_any b bD bE bM c _ s k o a V HWV.out (by rw [HLN.out]; exact hlt) (by rw [HLN.out]; omega) HR hb1 hb2).mono ?_
          rintro e w4 ⟨β, rfl, hp, hb⟩
          have HB4 := hid (HBV.out.trans (hb W.heap.size (by omega) (by omega) (by omega) HBV.out.size))
          clear hb HWV HBV hb1 hb2
          cases hps : passS s k o a with
          | some s' =>
            rw [hps] at hp HN
            obtain ⟨rfl, hw4⟩ := hp
            have HW4 := hid hw4
            clear hw4 hps
            go_wp2_with fail
            go_roundw
            case rel => exact ⟨k + 1, s', by omega, by go_num, HN, HW4, HB4⟩
            case measure => simp [RowKit.intOf]; omega
          | none =>
            rw [hps] at hp HN
            obtain rfl : β = false := hp
            have HQN : Hid (q = none) := hid (by rw [← HQ.out]; exact chkTo_none HN.out _ (by omega))
            have HBW := hid (HW.out.trans (HB4.out.mono HW.out.size))
            clear hps c0 d0 j0 j1
            obtain ⟨hc, hf⟩ := bcell HB4.out
            have lw : w.heap.size < W.heap.size := by omega
            have r0 := (hc _ _ lw).trans r0
            have r1 := (hc _ _ lw).trans r1
            have r2 := (hc _ _ lw).trans r2
            have r3 := (hc _ _ lw).trans r3
            have r4 := (hc _ _ lw).trans r4
            have g0 := (hf _ _ lw).trans (rf 0)
            have g1 := (hf _ _ lw).trans (rf 1)
            have g2 := (hf _ _ lw).trans (rf 2)
            have g3 := (hf _ _ lw).trans (rf 3)
            have g4 := (hf _ _ lw).trans (rf 4)
            clear hc hf rf
            go_wp2_with fail
            refine bodyPost_ret (v := .tuple #[repV (.slice none 0 0) 0 0 false false, .int .i64 9]) (by simp [results, Tryz.results87, go_sem, r0, r1, r2, r3, r4]) rfl (chkpost_no HQN (below_set5 HBW.out (Nat.le_refl _) _ _ _ _ _))
      · obtain rfl : k = l.length := by omega
        have HQS : Hid (q = some s) := hid (by rw [← HQ.out]; exact hto.out)
        have HBW := hid (HW.out.trans (hbel.out.mono HW.out.size))
        obtain ⟨hc, hf⟩ := bcell hbel.out
        have lw : w.heap.size < W.heap.size := by omega
        have r0 := (hc _ _ lw).trans r0
        have r1 := (hc _ _ lw).trans r1
        have r2 := (hc _ _ lw).trans r2
        have r3 := (hc _ _ lw).trans r3
        have r4 := (hc _ _ lw).trans r4
        have g0 := (hf _ _ lw).trans (rf 0)
        have g1 := (hf _ _ lw).trans (rf 1)
        have g2 := (hf _ _ lw).trans (rf 2)
        have g3 := (hf _ _ lw).trans (rf 3)
        have g4 := (hf _ _ lw).trans (rf 4)
        have c0 := hwk.out.c0; have c1 := hwk.out.c1; have c2 := hwk.out.c2; have c3 := hwk.out.c3; have c4 := hwk.out.c4
        have HSL : Hid (∀ a1 a2 a3 a4 a5, SlI (((((wr.setCell ⟨w.heap.size, 0, none⟩ a1).setCell ⟨w.heap.size, 1, none⟩ a2).setCell ⟨w.heap.size, 2, none⟩ a3).setCell ⟨w.heap.size, 3, none⟩ a4).setCell ⟨w.heap.size, 4, none⟩ a5) (((((wr.setCell ⟨w.heap.size, 0, none⟩ a1).setCell ⟨w.heap.size, 1, none⟩ a2).setCell ⟨w.heap.size, 2, none⟩ a3).setCell ⟨w.heap.size, 3, none⟩ a4).setCell ⟨w.heap.size, 4, none⟩ a5).heap.size .i64 (.slice A s.D.length c) s.D) :=
          hid (fun a1 a2 a3 a4 a5 => hwk.out.sli (fun j => set5_other wr j (by omega) _ _ _ _ _) (by simp))
        clear hc hf rf
        go_wp2_with fail
        refine bodyPost_ret (v := .tuple #[repV (.slice A s.D.length c) s.mx s.em s.u0 s.u1, .int .i64 0]) (by simp [results, Tryz.results87, go_sem, r0, r1, r2, r3, r4]) rfl (chkpost_ok HQS (HSL.out _ _ _ _ _) (below_set5 HBW.out (Nat.le_refl _) _ _ _ _ _))

theorem chkpost_below {W w' : World} {q : Option CkS} {r : Ending} (h : ChkPost W q r w') : Below W.heap.size W w' := by
  cases q with
  | none => exact h.2
  | some s => obtain ⟨v, _, _, h⟩ := h; exact h

def safeB (q : Option CkS) : Bool := q.isSome

set_option maxHeartbeats 1000000 in
theorem safe_any (v : Value) (l : List (Int × Int)) (β : Bool) (hβ : Hid ((chk l).isSome = β)) (hl : l.length ≤ 1000000000000) (w : World) (hv : SlV w w.heap.size v l) :
    Calls Tryz.prog 69 #[v] w fun e w' => e = .returned (.bool β) ∧ Below w.heap.size w w' := by
  obtain ⟨q, hq⟩ : ∃ q, chk l = q := ⟨_, rfl⟩
  rw [hq] at hβ
  have HQ := hid hq; clear hq
  have HV := hid hv; clear hv
  go_enter Tryz.func69, Tryz.ntmps69
  go_wp2_with fail
  refine (check_any v l q HQ hl w HV.out).mono ?_
  intro e w1 hp
  cases q with
  | none =>
    obtain ⟨rfl, hb⟩ := hp
    have HB := hid hb; clear hb
    obtain rfl : false = β := by rw [← hβ.out]; rfl
    go_wp2_with fail
    go_ret
    exact ⟨rfl, HB.out.alloc HB.out.size _⟩
  | some s =>
    obtain ⟨v1, rfl, hsl, hb⟩ := hp
    have HB := hid hb; clear hb
    obtain rfl : true = β := by rw [← hβ.out]; rfl
    obtain ⟨A, c, rfl, _, _⟩ := hsl
    obtain ⟨D, E, mx, em, u0, u1⟩ := s
    go_wp2_with fail
    go_ret
    exact ⟨rfl, HB.out.alloc HB.out.size _⟩

theorem eql_flags (a b c d : Bool) (w : World) : (binOp .eql 50 (.agg #[.bool a, .bool b]) (.agg #[.bool c, .bool d])).run Tryz.prog w = .ok (.bool ((a == c) && (b == d))) w := by
  cases a <;> cases b <;> cases c <;> cases d <;> kernel_rfl

def passesB (q : Option CkS) : Bool := match q with
  | some s => (s.u0 == false) && (s.u1 == false)
  | none => false

end Go.Proofs.YtfhlpbjdcdagjaaGreatDoor

namespace Go.Proofs.YtfhlpbjdcdagjaaGreatDoor
open Go.RowKit Go.Lib
set_option linter.unusedVariables false
set_option maxRecDepth 100000

def rgtB (x : Int × Int) : Bool := decide (x.1 = into x.1) && decide (x.2 = into x.2)

theorem rgtB_iff (x : Int × Int) : rgtB x = true ↔ Rgt x := by
  unfold rgtB Rgt
  rw [Bool.and_eq_true, decide_eq_true_eq, decide_eq_true_eq]
  exact ⟨fun h => ⟨h.1.symm, h.2.symm⟩, fun h => ⟨h.1.symm, h.2.symm⟩⟩

theorem allB_snoc {l : List (Int × Int)} {k : Nat} (hlt : k < l.length) (h : (l.take k).all rgtB = true) (h2 : rgtB (l.getD k (0, 0)) = true) : (l.take (k + 1)).all rgtB = true := by
  rw [List.take_succ_eq_append_getElem hlt, List.all_append, h, List.all_cons, List.all_nil]
  rw [List.getD_eq_getElem?_getD, List.getElem?_eq_getElem hlt] at h2
  simpa using h2

theorem allB_not {l : List (Int × Int)} {k : Nat} (hlt : k < l.length) (h2 : rgtB (l.getD k (0, 0)) = false) : l.all rgtB = false := by
  rw [List.getD_eq_getElem?_getD, List.getElem?_eq_getElem hlt] at h2
  cases h : l.all rgtB with
  | false => rfl
  | true => rw [List.all_eq_true] at h; have := h _ (List.getElem_mem hlt); simp at h2; rw [h2] at this; cases this

set_option maxHeartbeats 1000000 in
theorem vright_any (v : Value) (l : List (Int × Int)) (β : Bool) (hβ : Hid (l.all rgtB = β)) (hl : l.length ≤ 1000000000000) (hi : ∀ j, j < l.length → I64 (l.getD j (0, 0)).1 ∧ I64 (l.getD j (0, 0)).2) (w : World) (hv : SlV w w.heap.size v l) :
    Calls Tryz.prog 70 #[v] w fun e w' => e = .returned (.bool β) ∧ Below w.heap.size w w' := by
  have HI := hid hi; clear hi
  obtain ⟨A, c, rfl, hc, hA⟩ := hv
  have HA := hid hA; clear hA
  go_enter Tryz.func70, Tryz.ntmps70
  go_wp2_with fail
  go_loopw [7] (fun i wr => ∃ k : Nat, k ≤ l.length ∧ i = .int .i64 k ∧ Hid ((l.take k).all rgtB = true) ∧ Hid (Below w.heap.size w wr)) (fun i _ => l.length - (RowKit.intOf i).toNat)
  case atStart => exact ⟨0, Nat.zero_le _, rfl, hid (by simp), hid (Below.refl _ _)⟩
  case round =>
    obtain ⟨k, hk, rfl, HT, HB⟩ := hrel
    by_cases hlt : k < l.length
    · obtain ⟨b, o, rfl, hbB, hcell⟩ := HA.out (by omega)
      obtain ⟨ca, cb⟩ := hcell k hlt
      obtain ⟨h1, h2⟩ := HI.out k hlt
      obtain ⟨x, y, hxy⟩ := pair_of (p := l.getD k (0, 0))
      rw [hxy] at ca cb h1 h2
      simp only at ca cb h1 h2
      have HI1 := hid h1; have HI2 := hid h2
      have ca' := (HB.out.cell (p := ⟨b, o + k * 2, none⟩) hbB).trans ca
      have cb' := (HB.out.cell (p := ⟨b, o + k * 2 + 1, none⟩) hbB).trans cb
      obtain ⟨γ, hγ⟩ : ∃ γ, rgtB (x, y) = γ := ⟨_, rfl⟩
      have HXY := hid hxy
      have HG : Hid (rgtB (l.getD k (0, 0)) = γ) := hid (by rw [hxy]; exact hγ)
      have HG2 : Hid ((decide (x = into x) && decide (y = into y)) = γ) := hid hγ
      clear ca cb hcell h1 h2 hxy hγ
      go_wp2_with fail
      refine (right_any x y HI1.out HI2.out _).mono ?_
      rintro e w2 ⟨rfl, hb⟩
      rw [HG2.out]
      have HB2 := hid ((HB.out.alloc HB.out.size (.cells #[.int .i64 x, .int .i64 y] 31)).trans (hb.mono (HB.out.alloc HB.out.size _).size))
      clear hb
      cases γ with
      | true =>
        go_wp2_with fail
        go_roundw
        case rel => exact ⟨k + 1, by omega, by go_num, hid (allB_snoc hlt HT.out HG.out), HB2⟩
        case measure => simp [RowKit.intOf]; omega
      | false =>
        have hbf : Hid (false = β) := hid (by rw [← hβ.out]; exact (allB_not hlt HG.out).symm)
        go_wp2_with fail
        go_ret
        exact ⟨ret_bool hbf.out, HB2.out⟩
    · have hbt : Hid (true = β) := hid (by rw [← hβ.out, ← HT.out, List.take_of_length_le (by omega)])
      go_wp2_with fail
      go_ret
      exact ⟨ret_bool hbt.out, HB.out⟩

/-- A result. -/
abbrev resV (vo : Value) (a b c d n : Int) : Value := .agg #[vo, .int .i64 a, .int .i64 b, .int .i64 c, .int .i64 d, .int .i64 n]

/-- What Each answers; the output's row lies behind B. -/
inductive EachIs (l : List (Int × Int)) (c0 c1 : Int × Int) (ins : List (Int × Int)) (B : Nat) (w : World) : Value → Prop
  | code (h : (chk l).isSome = false) : EachIs l c0 c1 ins B w (.tuple #[resV (.slice none 0 0) 0 0 0 0 0, .int .i64 9])
  | arg (h : (chk l).isSome = true) (h2 : (rgtB c0 && rgtB c1 && ins.all rgtB) = false) : EachIs l c0 c1 ins B w (.tuple #[resV (.slice none 0 0) 0 0 0 0 0, .int .i64 1])
  | ok (h : (chk l).isSome = true) (h2 : (rgtB c0 && rgtB c1 && ins.all rgtB) = true) (vo : Value) (F : VmS) (hF : eachS l ins ⟨[], [], c0, c1, 0⟩ = F) (ho : w.ownsRow B 31 2 vo F.out.length (insCells F.out)) :
      EachIs l c0 c1 ins B w (.tuple #[resV vo F.c0.1 F.c0.2 F.c1.1 F.c1.2 F.n, .int .i64 0])

theorem own_mono {w : World} {B B' : Nat} {e : TypeId} {k : Nat} {v : Value} {n : Nat} {xs : List Value} (h : w.ownsRow B e k v n xs) (hB : B' ≤ B) : w.ownsRow B' e k v n xs := by
  refine ⟨h.1, ?_⟩
  rcases h.2 with h0 | ⟨g, cap, cur, a, b, c⟩
  · exact .inl h0
  · exact .inr ⟨g, cap, cur, a, by omega, c⟩

theorem two_cells {w : World} {g : Nat} {a b c d : Int} (h0 : w.cell? ⟨g, 0, none⟩ = some (.int .i64 a)) (h1 : w.cell? ⟨g, 1, none⟩ = some (.int .i64 b)) (h2 : w.cell? ⟨g, 2, none⟩ = some (.int .i64 c)) (h3 : w.cell? ⟨g, 3, none⟩ = some (.int .i64 d)) :
    SlV w w.heap.size (.slice (some ⟨g, 0, none⟩) 2 2) [(a, b), (c, d)] := by
  refine ⟨_, _, rfl, Nat.le_refl _, fun _ => ⟨_, 0, rfl, World.block_lt_of_cell? w _ h0, fun j hj => ?_⟩⟩
  match j, hj with
  | 0, _ => exact ⟨h0, h1⟩
  | 1, _ => exact ⟨h2, h3⟩

/-- A result that nothing was written to. -/
structure Res0 (w : World) (g : Nat) : Prop where
  r0 : w.cell? ⟨g, 0, none⟩ = some (.slice none 0 0)
  r1 : w.cell? ⟨g, 1, none⟩ = some (.int .i64 0)
  r2 : w.cell? ⟨g, 2, none⟩ = some (.int .i64 0)
  r3 : w.cell? ⟨g, 3, none⟩ = some (.int .i64 0)
  r4 : w.cell? ⟨g, 4, none⟩ = some (.int .i64 0)
  r5 : w.cell? ⟨g, 5, none⟩ = some (.int .i64 0)
  f : ∀ j, w.frozen? ⟨g, j, none⟩ = false

theorem Res0.keep {w w' : World} {g : Nat} (h : Res0 w g) (hk : w'.heap[g]? = w.heap[g]?) : Res0 w' g := by
  have c := fun j => World.cell?_of_block (a := ⟨g, j, none⟩) hk
  exact ⟨(c 0).trans h.r0, (c 1).trans h.r1, (c 2).trans h.r2, (c 3).trans h.r3, (c 4).trans h.r4, (c 5).trans h.r5, fun j => (World.frozen?_of_block (a := ⟨g, j, none⟩) hk).trans (h.f j)⟩

theorem Res0.below {W w' : World} {g : Nat} (h : Res0 W g) (hg : g < W.heap.size) (hb : Below W.heap.size W w') : Res0 w' g := h.keep (hb.block g hg)

/-- All six cells are set. -/
def set6 (w : World) (g : Nat) (v0 : Value) (a b c d n : Int) : World := (((((w.setCell ⟨g, 0, none⟩ v0).setCell ⟨g, 1, none⟩ (.int .i64 a)).setCell ⟨g, 2, none⟩ (.int .i64 b)).setCell ⟨g, 3, none⟩ (.int .i64 c)).setCell ⟨g, 4, none⟩ (.int .i64 d)).setCell ⟨g, 5, none⟩ (.int .i64 n)

theorem set6_below {B g : Nat} {w w' : World} (h : Below B w w') (hg : B ≤ g) (v0 : Value) (a b c d n : Int) : Below B w (set6 w' g v0 a b c d n) :=
  (((((h.setCell hg _).setCell hg _).setCell hg _).setCell hg _).setCell hg _).setCell hg _

theorem set6_grown (w : World) (g : Nat) (v0 : Value) (a b c d n : Int) : w.grownBy (set6 w g v0 a b c d n) (some g) := by
  have h0 := turned_refl w (some g)
  have h1 := turned_set (p := ⟨g, 0, none⟩) h0 (.inl rfl) v0
  have h2 := turned_set (p := ⟨g, 1, none⟩) h1 (.inl rfl) (.int .i64 a)
  have h3 := turned_set (p := ⟨g, 2, none⟩) h2 (.inl rfl) (.int .i64 b)
  have h4 := turned_set (p := ⟨g, 3, none⟩) h3 (.inl rfl) (.int .i64 c)
  have h5 := turned_set (p := ⟨g, 4, none⟩) h4 (.inl rfl) (.int .i64 d)
  exact turned_set (p := ⟨g, 5, none⟩) h5 (.inl rfl) (.int .i64 n)

/-- The boxes of Each: the cells, the result. -/
theorem each_box (w : World) (a b c d : Int) (t1 t2 : TypeId) : ∃ W : World, (w.alloc (.cells #[.int .i64 a, .int .i64 b, .int .i64 c, .int .i64 d] t1)).alloc (.cells #[.slice none 0 0, .int .i64 0, .int .i64 0, .int .i64 0, .int .i64 0, .int .i64 0] t2) = W ∧
    Hid (Below w.heap.size w W) ∧ Hid (W.cell? ⟨w.heap.size, 0, none⟩ = some (.int .i64 a) ∧ W.cell? ⟨w.heap.size, 1, none⟩ = some (.int .i64 b) ∧ W.cell? ⟨w.heap.size, 2, none⟩ = some (.int .i64 c) ∧ W.cell? ⟨w.heap.size, 3, none⟩ = some (.int .i64 d)) ∧
    Hid (Res0 W (w.heap.size + 1)) ∧ w.heap.size + 1 < W.heap.size := by
  refine ⟨_, rfl, hid (((Below.refl _ w).alloc (Nat.le_refl _) _).alloc (by simp) _), hid ⟨by simp, by simp, by simp, by simp⟩, hid ⟨by simp, by simp, by simp, by simp, by simp, by simp, fun j => ?_⟩, by simp⟩
  have := World.frozen?_alloc_new (w.alloc (.cells #[.int .i64 a, .int .i64 b, .int .i64 c, .int .i64 d] t1)) #[.slice none 0 0, .int .i64 0, .int .i64 0, .int .i64 0, .int .i64 0, .int .i64 0] t2 j
  rw [World.size_alloc] at this
  exact this

/-- The machine at first. -/
theorem Mch2.start (w : World) (B : Nat) (hB : B ≤ w.heap.size) (vp : Value) (a b c d : Int) (t : TypeId) (g : Nat) (hg : g < w.heap.size) : Mch2 (w.alloc (.cells #[.slice none 0 0, .int .i64 a, .int .i64 b, .int .i64 c, .int .i64 d, .int .i64 0, vp, .slice none 0 0] t)) B w.heap.size vp ⟨[], [], (a, b), (c, d), 0⟩ [g] := by
  refine ⟨.slice none 0 0, .slice none 0 0, ⟨hB, rfl, fun k hk => ?_, fun k => World.frozen?_alloc_new _ _ _ _, World.ownsRow_nil _ _ _ _, World.ownsRow_nil _ _ _ _, .inl rfl⟩, fun r hr => ?_⟩
  · rw [World.cell?_alloc_new]
    have hk' : k = 0 ∨ k = 1 ∨ k = 2 ∨ k = 3 ∨ k = 4 ∨ k = 5 ∨ k = 6 ∨ k = 7 := by omega
    rcases hk' with rfl | rfl | rfl | rfl | rfl | rfl | rfl | rfl <;> rfl
  · rw [List.mem_singleton.1 hr]
    exact ⟨by rw [World.size_alloc]; omega, by omega, by simp [Value.ownBlock], by simp [Value.ownBlock]⟩

theorem rg_all {l : List (Int × Int)} (h : l.all rgtB = true) : ∀ x ∈ l, Rgt x := fun x hx => (rgtB_iff x).1 (List.all_eq_true.1 h x hx)

/-- How far the machine can be behind k inputs. -/
theorem each_small {l ins : List (Int × Int)} {c0 c1 : Int × Int} (h : (chk l).isSome = true) (hc : (rgtB c0 && rgtB c1) = true) (hi : ins.all rgtB = true) (hn : ins.length ≤ 100000) (k : Nat) : fitsL l = true ∧ Good l ∧
    VmR (eachS l (ins.take k) ⟨[], [], c0, c1, 0⟩) ∧ (eachS l (ins.take k) ⟨[], [], c0, c1, 0⟩).out.length ≤ 900000000 ∧ (eachS l (ins.take k) ⟨[], [], c0, c1, 0⟩).n ≤ 1000000000 := by
  obtain ⟨s, hs⟩ := Option.isSome_iff_exists.1 h
  obtain ⟨hf, sem⟩ := chk_some hs
  rw [Bool.and_eq_true, rgtB_iff, rgtB_iff] at hc
  have h24 := ((fitsL_iff l).1 hf).1
  obtain ⟨a, b, c⟩ := each_bounds sem.good hf (vs := ins.take k) (fun x hx => rg_all hi x (List.mem_of_mem_take hx)) (s := ⟨[], [], c0, c1, 0⟩) ⟨by simp, by simp, hc.1, hc.2⟩
  have hk : (ins.take k).length ≤ 100000 := by rw [List.length_take]; omega
  have hm := Nat.mul_le_mul h24 hk
  simp only [List.length_nil] at b c
  exact ⟨hf, sem.good, a, by omega, by omega⟩

set_option maxHeartbeats 1000000 in
theorem each_any (vp : Value) (l : List (Int × Int)) (hl : l.length ≤ 1000000000000) (a b c d : Int) (hab : I64 a ∧ I64 b) (hcd : I64 c ∧ I64 d) (vi : Value) (ins : List (Int × Int)) (hn : ins.length ≤ 100000) (hi : ∀ j, j < ins.length → I64 (ins.getD j (0, 0)).1 ∧ I64 (ins.getD j (0, 0)).2)
    (w : World) (hv : SlV w w.heap.size vp l) (hvi : SlV w w.heap.size vi ins) :
    Calls Tryz.prog 47 #[vp, .agg #[.int .i64 a, .int .i64 b, .int .i64 c, .int .i64 d], vi] w fun e w' => (∃ r, e = .returned r ∧ EachIs l (a, b) (c, d) ins w.heap.size w' r) ∧ Below w.heap.size w w' := by
  have HV := hid hv; have HVI := hid hvi
  obtain ⟨Ap, cp, rfl, _, _⟩ := hv
  obtain ⟨Ai, ci, rfl, hci, hA⟩ := hvi
  have HA := hid hA; clear hA
  have HI := hid hi; have HAB := hid hab; have HCD := hid hcd; have HL := hid hl; have HNN := hid hn
  clear hi hab hcd hl hn
  obtain ⟨W, hW, HB, HC, HC2, hl1⟩ := each_box w a b c d 32 79
  obtain ⟨β, hβ⟩ : ∃ β, (chk l).isSome = β := ⟨_, rfl⟩
  have Hβ := hid hβ
  clear hβ
  go_enter Tryz.func47, Tryz.ntmps47
  go_wp2_with fail
  clear hW
  refine (safe_any _ l β Hβ HL.out W ((HV.out.below HB.out).mono HB.out.size)).mono ?_
  rintro e w1 ⟨rfl, hb1⟩
  have HR1 := hid (HC2.out.below hl1 hb1)
  have HB1 := hid (HB.out.trans (hb1.mono HB.out.size))
  have hl2 : w.heap.size + 1 < w1.heap.size := Nat.lt_of_lt_of_le hl1 hb1.size
  obtain ⟨hcc, _⟩ := bcell hb1
  have HK1 := hid (And.intro ((hcc _ _ (by omega)).trans HC.out.1) (And.intro ((hcc _ _ (by omega)).trans HC.out.2.1) (And.intro ((hcc _ _ (by omega)).trans HC.out.2.2.1) ((hcc _ _ (by omega)).trans HC.out.2.2.2))))
  clear hb1 hcc HB HC HC2 hl1
  have ⟨r0, r1, r2, r3, r4, r5, rf⟩ := HR1.out
  cases β with
  | false =>
    go_wp2_with fail
    refine bodyPost_ret (v := .tuple #[resV (.slice none 0 0) 0 0 0 0 0, .int .i64 9]) (by simp [results, Tryz.results47, go_sem, r0, r1, r2, r3, r4, r5]) rfl ⟨⟨_, rfl, .code Hβ.out⟩, ?_⟩
    exact set6_below HB1.out (by omega) (.slice none 0 0) 0 0 0 0 0
  | true =>
    have HSL : Hid (SlV w1 w1.heap.size (.slice (some ⟨w.heap.size, 0, none⟩) 2 2) [(a, b), (c, d)]) := hid (two_cells HK1.out.1 HK1.out.2.1 HK1.out.2.2.1 HK1.out.2.2.2)
    obtain ⟨γ, hγ⟩ : ∃ γ, [(a, b), (c, d)].all rgtB = γ := ⟨_, rfl⟩
    have HG := hid hγ
    have HG' : Hid ((rgtB (a, b) && rgtB (c, d)) = γ) := hid (by rw [← hγ]; simp)
    clear hγ r0 r1 r2 r3 r4 r5 rf
    go_wp2_with fail
    refine (vright_any _ _ γ HG (by simp) (i64_two HAB.out HCD.out) w1 HSL.out).mono ?_
    rintro e w2 ⟨rfl, hb2⟩
    have HR2 := hid (HR1.out.below hl2 hb2)
    have HB2 := hid (HB1.out.trans (hb2.mono HB1.out.size))
    have hl3 : w.heap.size + 1 < w2.heap.size := Nat.lt_of_lt_of_le hl2 hb2.size
    obtain ⟨hcc, _⟩ := bcell hb2
    have HK2 := hid (And.intro ((hcc _ _ (by omega)).trans HK1.out.1) (And.intro ((hcc _ _ (by omega)).trans HK1.out.2.1) (And.intro ((hcc _ _ (by omega)).trans HK1.out.2.2.1) ((hcc _ _ (by omega)).trans HK1.out.2.2.2))))
    clear hb2 hcc HB1 HK1 HR1 HSL hl2
    cases γ with
    | false =>
      have ⟨r0, r1, r2, r3, r4, r5, rf⟩ := HR2.out
      go_wp2_with fail
      refine bodyPost_ret (v := .tuple #[resV (.slice none 0 0) 0 0 0 0 0, .int .i64 1]) (by simp [results, Tryz.results47, go_sem, r0, r1, r2, r3, r4, r5]) rfl ⟨⟨_, rfl, .arg Hβ.out (by rw [HG'.out]; rfl)⟩, ?_⟩
      exact set6_below HB2.out (by omega) (.slice none 0 0) 0 0 0 0 0
    | true =>
      obtain ⟨δ, hδ⟩ : ∃ δ, ins.all rgtB = δ := ⟨_, rfl⟩
      have HD := hid hδ
      clear hδ
      have HVI2 := hid ((HVI.out.below HB2.out).mono HB2.out.size)
      go_wp2_with fail
      refine (vright_any _ ins δ HD (by have := HNN.out; omega) HI.out w2 HVI2.out).mono ?_
      rintro e w3 ⟨rfl, hb3⟩
      have HR3 := hid (HR2.out.below hl3 hb3)
      have HB3 := hid (HB2.out.trans (hb3.mono HB2.out.size))
      have hl4 : w.heap.size + 1 < w3.heap.size := Nat.lt_of_lt_of_le hl3 hb3.size
      obtain ⟨hcc, _⟩ := bcell hb3
      have HK3 := hid (And.intro ((hcc _ _ (by omega)).trans HK2.out.1) (And.intro ((hcc _ _ (by omega)).trans HK2.out.2.1) (And.intro ((hcc _ _ (by omega)).trans HK2.out.2.2.1) ((hcc _ _ (by omega)).trans HK2.out.2.2.2))))
      clear hb3 hcc HB2 HK2 HR2 HVI2 hl3
      cases δ with
      | false =>
        have ⟨r0, r1, r2, r3, r4, r5, rf⟩ := HR3.out
        go_wp2_with fail
        refine bodyPost_ret (v := .tuple #[resV (.slice none 0 0) 0 0 0 0 0, .int .i64 1]) (by simp [results, Tryz.results47, go_sem, r0, r1, r2, r3, r4, r5]) rfl ⟨⟨_, rfl, .arg Hβ.out (by rw [HG'.out, HD.out]; rfl)⟩, ?_⟩
        exact set6_below HB3.out (by omega) (.slice none 0 0) 0 0 0 0 0
      | true =>
        have ⟨k0, k1, k2, k3⟩ := HK3.out
        have HM0 := hid (Mch2.start w3 w.heap.size (Nat.le_trans (Nat.le_of_lt (Nat.lt_of_succ_lt hl4)) (Nat.le_refl _)) (.slice Ap l.length cp) a b c d 126 (w.heap.size + 1) hl4)
        go_wp2_with fail
        clear k0 k1 k2 k3
        obtain ⟨W4, hW4⟩ : ∃ W4, w3.alloc (.cells #[.slice none 0 0, .int .i64 a, .int .i64 b, .int .i64 c, .int .i64 d, .int .i64 0, .slice Ap l.length cp, .slice none 0 0] 126) = W4 := ⟨_, rfl⟩
        have HR4 : Hid (Res0 W4 (w.heap.size + 1)) := hid (by rw [← hW4]; exact HR3.out.below hl4 ((Below.refl _ _).alloc (Nat.le_refl _) _))
        have HB4 : Hid (Below w.heap.size w W4) := hid (by rw [← hW4]; exact HB3.out.alloc HB3.out.size _)
        rw [hW4] at HM0 ⊢
        clear hW4
        clear HK3 HR3
        obtain ⟨g, hg⟩ : ∃ g, w3.heap.size = g := ⟨_, rfl⟩
        rw [hg] at HM0 ⊢
        have hnn := HNN.out
        go_loopw [30] (fun i wr => ∃ k : Nat, k ≤ ins.length ∧ i = .int .i64 k ∧ Hid (MP w.heap.size g (.slice Ap l.length cp) (eachS l (ins.take k) ⟨[], [], (a, b), (c, d), 0⟩) [w.heap.size + 1] W4 wr)) (fun i _ => ins.length - (RowKit.intOf i).toNat)
        case atStart => exact ⟨0, Nat.zero_le _, rfl, hid HM0.out.refl⟩
        case round =>
          obtain ⟨k, hk, rfl, HMP⟩ := hrel
          have HS := hid (each_small Hβ.out HG'.out HD.out HNN.out k)
          by_cases hlt : k < ins.length
          · obtain ⟨b1, o1, rfl, hbB, hcell⟩ := HA.out (by omega)
            obtain ⟨ca, cb⟩ := hcell k hlt
            obtain ⟨x, y, hxy⟩ := pair_of (p := ins.getD k (0, 0))
            have hrx : Rgt (ins.getD k (0, 0)) := rg_getD (rg_all HD.out) k
            rw [hxy] at ca cb hrx
            simp only at ca cb
            have HRX := hid hrx; have HX := hid hxy
            have HBB := hid (HB4.out.trans HMP.out.bel)
            have ca' := (HBB.out.cell (p := ⟨b1, o1 + k * 2, none⟩) hbB).trans ca
            have cb' := (HBB.out.cell (p := ⟨b1, o1 + k * 2 + 1, none⟩) hbB).trans cb
            clear ca cb hcell hxy hrx
            have HM5 := hid (HMP.out.trans (HMP.out.m.alloc (.cells #[.int .i64 x, .int .i64 y] 31)))
            go_wp2_with fail
            refine (run_any (B := w.heap.size) (fx := [w.heap.size + 1]) l HS.out.1 HS.out.2.1 x y HRX.out _ HS.out.2.2.1 HS.out.2.2.2.1 HS.out.2.2.2.2 _ (HV.out.below (HB4.out.trans HM5.out.bel)) HM5.out.m).mono ?_
            rintro e w6 ⟨rfl, hm6⟩
            have HM6 := hid (HM5.out.trans hm6)
            clear hm6
            go_wp2_with fail
            go_roundw
            case rel => exact ⟨k + 1, by omega, by go_num, by rw [eachS_snoc l ins _ k hlt, HX.out]; exact HM6⟩
            case measure => simp [RowKit.intOf]; omega
          · obtain ⟨vs, vo, hV, hF⟩ := HMP.out.m
            have hke : ins.take k = ins := List.take_of_length_le (by omega)
            rw [hke] at hV
            obtain ⟨F, hFe⟩ : ∃ F, eachS l ins ⟨[], [], (a, b), (c, d), 0⟩ = F := ⟨_, rfl⟩
            rw [hFe] at hV
            have HFE := hid hFe
            have HVV := hid hV
            have HFF := hid hF
            have m0 : wr.cell? ⟨g, 0, none⟩ = some vo := hV.cells 0 (by omega)
            have m1 : wr.cell? ⟨g, 1, none⟩ = some (.int .i64 F.c0.1) := hV.cells 1 (by omega)
            have m2 : wr.cell? ⟨g, 2, none⟩ = some (.int .i64 F.c0.2) := hV.cells 2 (by omega)
            have m3 : wr.cell? ⟨g, 3, none⟩ = some (.int .i64 F.c1.1) := hV.cells 3 (by omega)
            have m4 : wr.cell? ⟨g, 4, none⟩ = some (.int .i64 F.c1.2) := hV.cells 4 (by omega)
            have m5 : wr.cell? ⟨g, 5, none⟩ = some (.int .i64 F.n) := hV.cells 5 (by omega)
            obtain ⟨Ao, co, rfl⟩ := own_form hV.ono
            have HBE := hid (HB4.out.trans HMP.out.bel)
            have HRE := hid (HR4.out.keep (HMP.out.keep _ (by simp)))
            have ⟨r0, r1, r2, r3, r4, r5, rf⟩ := HRE.out
            clear hV hF hFe hke
            go_wp2_with fail
            refine bodyPost_ret (v := .tuple #[resV (.slice Ao F.out.length co) F.c0.1 F.c0.2 F.c1.1 F.c1.2 F.n, .int .i64 0]) (by simp [results, Tryz.results47, go_sem, r0, r1, r2, r3, r4, r5]) rfl ⟨⟨_, rfl, .ok Hβ.out (by rw [HG'.out, HD.out]; rfl) _ F HFE.out ?_⟩, ?_⟩
            · exact own_mono (HVV.out.ono.kept (set6_grown wr (w.heap.size + 1) (.slice Ao F.out.length co) F.c0.1 F.c0.2 F.c1.1 F.c1.2 F.n) (.inr (HFF.out _ (by simp)).2.2.2)) (Nat.le_succ_of_le HVV.out.le)
            · exact set6_below HBE.out (by omega) (.slice Ao F.out.length co) F.c0.1 F.c0.2 F.c1.1 F.c1.2 F.n

theorem EachIs.kept {l : List (Int × Int)} {c0 c1 : Int × Int} {ins : List (Int × Int)} {B : Nat} {w w' : World} {v : Value} {r : Nat} (h : EachIs l c0 c1 ins B w v) (hg : w.grownBy w' (some r)) (hr : r < B) : EachIs l c0 c1 ins B w' v := by
  cases h with
  | code h => exact .code h
  | arg h h2 => exact .arg h h2
  | ok h h2 vo F hF ho => exact .ok h h2 vo F hF (ho.kept hg (own_ne ho hr))

theorem EachIs.mono {l : List (Int × Int)} {c0 c1 : Int × Int} {ins : List (Int × Int)} {B B' : Nat} {w : World} {v : Value} (h : EachIs l c0 c1 ins B w v) (hB : B' ≤ B) : EachIs l c0 c1 ins B' w v := by
  cases h with
  | code h => exact .code h
  | arg h h2 => exact .arg h h2
  | ok h h2 vo F hF ho => exact .ok h h2 vo F hF (own_mono ho hB)

theorem EachIs.below {l : List (Int × Int)} {c0 c1 : Int × Int} {ins : List (Int × Int)} {B : Nat} {w w' : World} {v : Value} (h : EachIs l c0 c1 ins B w v) (hb : Below w.heap.size w w') : EachIs l c0 c1 ins B w' v := by
  cases h with
  | code h => exact .code h
  | arg h h2 => exact .arg h h2
  | ok h h2 vo F hF ho => exact .ok h h2 vo F hF (own_below ho hb)

/-- What it answers, as letters. -/
theorem EachIs.form {l : List (Int × Int)} {c0 c1 : Int × Int} {ins : List (Int × Int)} {B : Nat} {w : World} {v : Value} (h : EachIs l c0 c1 ins B w v) : ∃ A m c a0 a1 a2 a3 n e, v = .tuple #[resV (.slice A m c) a0 a1 a2 a3 n, .int .i64 e] := by
  cases h with
  | code h => exact ⟨_, _, _, _, _, _, _, _, _, rfl⟩
  | arg h h2 => exact ⟨_, _, _, _, _, _, _, _, _, rfl⟩
  | ok h h2 vo F hF ho =>
    obtain ⟨A, c, rfl⟩ := own_form ho
    exact ⟨_, _, _, _, _, _, _, _, _, rfl⟩

/-- The boxes of Run: the input, the cells, the result. -/
theorem run_boxes (w : World) (x y a b c d : Int) (t0 t1 t2 : TypeId) : ∃ W : World, ((w.alloc (.cells #[.int .i64 x, .int .i64 y] t0)).alloc (.cells #[.int .i64 a, .int .i64 b, .int .i64 c, .int .i64 d] t1)).alloc (.cells #[.slice none 0 0, .int .i64 0, .int .i64 0, .int .i64 0, .int .i64 0, .int .i64 0] t2) = W ∧
    Hid (Below w.heap.size w W) ∧ (W.cell? ⟨w.heap.size, 0, none⟩ = some (.int .i64 x) ∧ W.cell? ⟨w.heap.size, 1, none⟩ = some (.int .i64 y)) ∧ (W.cell? ⟨w.heap.size + 1, 0, none⟩ = some (.int .i64 a) ∧ W.cell? ⟨w.heap.size + 1, 1, none⟩ = some (.int .i64 b) ∧ W.cell? ⟨w.heap.size + 1, 2, none⟩ = some (.int .i64 c) ∧ W.cell? ⟨w.heap.size + 1, 3, none⟩ = some (.int .i64 d)) ∧
    Hid (Res0 W (w.heap.size + 1 + 1)) ∧ w.heap.size + 1 + 1 < W.heap.size := by
  obtain ⟨W, hW, hB, hC, hR, hl⟩ := each_box (w.alloc (.cells #[.int .i64 x, .int .i64 y] t0)) a b c d t1 t2
  rw [World.size_alloc] at hB hC hR hl
  have h0 : ∀ j, W.cell? ⟨w.heap.size, j, none⟩ = (w.alloc (.cells #[.int .i64 x, .int .i64 y] t0)).cell? ⟨w.heap.size, j, none⟩ := fun j => hB.out.cell (p := ⟨w.heap.size, j, none⟩) (by simp only; omega)
  exact ⟨W, hW, hid (((Below.refl _ w).alloc (Nat.le_refl _) _).trans (hB.out.mono (by omega))), ⟨(h0 0).trans (by simp), (h0 1).trans (by simp)⟩, hC.out, hR, hl⟩

set_option maxHeartbeats 1000000 in
theorem vrun_any (vp : Value) (l : List (Int × Int)) (hl : l.length ≤ 1000000000000) (x y a b c d : Int) (hxy : I64 x ∧ I64 y) (hab : I64 a ∧ I64 b) (hcd : I64 c ∧ I64 d) (w : World) (hv : SlV w w.heap.size vp l) :
    Calls Tryz.prog 29 #[vp, val x y, .agg #[.int .i64 a, .int .i64 b, .int .i64 c, .int .i64 d]] w fun e w' => (∃ r, e = .returned r ∧ EachIs l (a, b) (c, d) [(x, y)] w.heap.size w' r) ∧ Below w.heap.size w w' := by
  have HV := hid hv; have HX := hid hxy; have HAB := hid hab; have HCD := hid hcd; have HL := hid hl
  clear hv hxy hab hcd hl
  obtain ⟨W, hW, HB, ⟨k0, k1⟩, ⟨q0, q1, q2, q3⟩, HR, hlt⟩ := run_boxes w x y a b c d 31 32 79
  go_enter Tryz.func29, Tryz.ntmps29
  go_wp2_with fail
  clear hW k0 k1 q0 q1 q2 q3
  have hb0 := (Below.refl W.heap.size W).alloc (Nat.le_refl _) (.cells #[.int .i64 x, .int .i64 y] 31)
  have HB0 := hid (HB.out.trans (hb0.mono HB.out.size))
  have HR0 := hid (HR.out.below hlt hb0)
  have hs0 : (W.alloc (.cells #[.int .i64 x, .int .i64 y] 31)).heap.size = W.heap.size + 1 := World.size_alloc _ _
  have HS0 := hid hs0
  clear hs0 hb0
  refine (each_any vp l HL.out a b c d HAB.out HCD.out _ [(x, y)] (by simp) (by intro j hj; match j, hj with | 0, _ => exact HX.out) (W.alloc (.cells #[.int .i64 x, .int .i64 y] 31)) ((HV.out.below HB0.out).mono HB0.out.size) (SlV.lit1 W x y _)).mono ?_
  rintro e w1 ⟨⟨r, rfl, hr⟩, hb1⟩
  have HE := hid hr
  obtain ⟨A, m, cc, a0, a1, a2, a3, n, ee, rfl⟩ := hr.form
  have HR1 := hid (HR0.out.below (by rw [HS0.out]; omega) hb1)
  have HB1 := hid (HB0.out.trans (hb1.mono HB0.out.size))
  have hl2 : w.heap.size + 1 + 1 < w1.heap.size := by have := hb1.size; rw [HS0.out] at this; omega
  clear hr hb1
  have ⟨r0, r1, r2, r3, r4, r5, rf⟩ := HR1.out
  go_wp2_with fail
  refine bodyPost_ret (v := .tuple #[resV (.slice A m cc) a0 a1 a2 a3 n, .int .i64 ee]) (by simp [results, Tryz.results29, go_sem, r0, r1, r2, r3, r4, r5]) rfl ⟨⟨_, rfl, ?_⟩, ?_⟩
  · have h1 := HE.out.kept (set6_grown w1 (w.heap.size + 1 + 1) (.slice A m cc) a0 a1 a2 a3 n) (by rw [HS0.out]; omega)
    exact h1.mono (by rw [HS0.out]; omega)
  · exact set6_below HB1.out (by omega) (.slice A m cc) a0 a1 a2 a3 n

end Go.Proofs.YtfhlpbjdcdagjaaGreatDoor
