/- Layer 7, cell: among; what entries are sorted by. -/
import Derived.Test.YtfhlpbjdcdagjaaGreatDoorHam
import Derived.Test.YtfhlpbjdcdagjaaGreatDoorHag
import Derived.Test.YtfhlpbjdcdagjaaGreatDoorHaa
import Derived.Laws.AppendOwnNone
import Derived.Laws.OwnMore
import Derived.WalkKit
import Derived.Test.YtfhlpbjdcdagjaaGreatDoorHae
import Derived.Shelf.SlSortCmp.NoneTotal
import Derived.Maps.Range
namespace Go.Proofs.YtfhlpbjdcdagjaaGreatDoor
open Go.RowKit Go.Lib Go.MapKept
set_option linter.unusedVariables false
set_option maxRecDepth 100000

theorem contains_snoc {gs : List Int} {k : Nat} (h : k < gs.length) (j : Int) : (gs.take (k + 1)).contains j = ((gs.take k).contains j || decide (j = gs.getD k 0)) := by
  rw [List.take_succ_eq_append_getElem h, List.getD_eq_getElem?_getD, List.getElem?_eq_getElem h]
  simp only [List.contains_eq_mem, List.mem_append, List.mem_singleton, Option.getD_some]
  by_cases h1 : j ∈ List.take k gs <;> by_cases h2 : j = gs[k] <;> simp [h1, h2]

structure AmongL (w : World) (nb hb : Nat) (node : Int) (gs : List Int) : Prop where
  a : AmongAt w nb hb node gs
  f : ∀ j, w.frozen? ⟨hb, j, none⟩ = false
  ne : nb ≠ hb

theorem AmongL.set {w : World} {nb hb : Nat} {node : Int} {gs gs' : List Int} (h : AmongL w nb hb node gs) {j : Nat} (hj : j < 8) (hg : ∀ i : Nat, gs'.contains (i : Int) = (gs.contains (i : Int) || decide (i = j))) : AmongL (w.setCell ⟨hb, j, none⟩ (.bool true)) nb hb node gs' := by
  have hk := Below.heap_setCell w ⟨hb, j, none⟩ (.bool true) nb h.ne
  refine ⟨⟨by simp; exact h.a.l1, by simp; exact h.a.l2, (World.cell?_of_block (a := ⟨nb, 0, none⟩) hk).trans h.a.n, fun i hi => ?_⟩, fun i => by rw [World.frozen?_setCell]; exact h.f i, h.ne⟩
  rw [hg i]
  by_cases e : i = j
  · subst e
    rw [World.cell?_setCell_same _ _ _ (h.a.g i hi)]
    simp
  · rw [World.cell?_setCell_other _ _ _ _ (fun q => e (by injection q with _ q; exact q.symm))]
    rw [h.a.g i hi]
    simp [e]

theorem AmongL.same {w : World} {nb hb : Nat} {node : Int} {gs gs' : List Int} (h : AmongL w nb hb node gs) (hg : ∀ i : Nat, i < 8 → gs'.contains (i : Int) = gs.contains (i : Int)) : AmongL w nb hb node gs' :=
  ⟨⟨h.a.l1, h.a.l2, h.a.n, fun i hi => by rw [hg i hi]; exact h.a.g i hi⟩, h.f, h.ne⟩

theorem among_box (w : World) (node : Int) (t1 t2 : TypeId) : ∃ W : World, (w.alloc (.cells #[.int .i64 node] t1)).alloc (.cells #[.bool false, .bool false, .bool false, .bool false, .bool false, .bool false, .bool false, .bool false] t2) = W ∧ Hid (Below w.heap.size w W) ∧ Hid (AmongL W w.heap.size (w.heap.size + 1) node []) := by
  refine ⟨_, rfl, hid (((Below.refl _ w).alloc (Nat.le_refl _) _).alloc (by simp) _), hid ⟨⟨by simp; omega, by simp, by simp, fun j hj => ?_⟩, fun j => ?_, by omega⟩⟩
  · have : j = 0 ∨ j = 1 ∨ j = 2 ∨ j = 3 ∨ j = 4 ∨ j = 5 ∨ j = 6 ∨ j = 7 := by omega
    rcases this with rfl | rfl | rfl | rfl | rfl | rfl | rfl | rfl <;> simp
  · have := World.frozen?_alloc_new (w.alloc (.cells #[.int .i64 node] t1)) #[.bool false, .bool false, .bool false, .bool false, .bool false, .bool false, .bool false, .bool false] t2 j
    rw [World.size_alloc] at this
    exact this

abbrev amongV (nb hb : Nat) : Value := .func (.func 52) #[] #[.pointer (some ⟨nb, 0, none⟩), .pointer (some ⟨hb, 0, none⟩)]

set_option maxHeartbeats 2000000 in
theorem among_any (node : Int) (v : Value) (gs : List Int) (hl : gs.length ≤ 1000000000000) (w : World) (hv : SlI w w.heap.size .i64 v gs) :
    Calls Tryz.prog 34 #[.int .i64 node, v] w fun e w' => (∃ nb hb, e = .returned (amongV nb hb) ∧ AmongAt w' nb hb node gs) ∧ Below w.heap.size w w' := by
  obtain ⟨A, c, rfl, hc, hA⟩ := hv
  have HA := hid hA; clear hA
  obtain ⟨W, hW, HB0, HL0⟩ := among_box w node 3 111
  obtain ⟨g, hg⟩ : ∃ g, w.heap.size = g := ⟨_, rfl⟩
  go_enter Tryz.func34, Tryz.ntmps34
  go_wp2_with fail
  rw [hg] at HL0 HB0 HA
  have HG := hid hg
  clear hW hg
  go_loopw [10] (fun i wr => ∃ k : Nat, k ≤ gs.length ∧ i = .int .i64 k ∧ Hid (AmongL wr g (g + 1) node (gs.take k)) ∧ Hid (Below g w wr)) (fun i _ => gs.length - (RowKit.intOf i).toNat)
  case atStart => exact ⟨0, Nat.zero_le _, rfl, hid (by simpa using HL0.out), HB0⟩
  case round =>
    obtain ⟨k, hk, rfl, HL, HB⟩ := hrel
    by_cases hlt : k < gs.length
    · obtain ⟨b, o, rfl, hbB, hcell⟩ := HA.out (by omega)
      have hx := (HB.out.cell (p := ⟨b, o + k, none⟩) hbB).trans (hcell k hlt)
      obtain ⟨x, hxe⟩ : ∃ x, gs.getD k 0 = x := ⟨_, rfl⟩
      rw [hxe] at hx
      have HXE := hid hxe
      have hsn := fun j => contains_snoc hlt j
      rw [hxe] at hsn
      have HSN := hid hsn
      clear hcell hxe hsn
      by_cases h0 : 0 ≤ x
      · obtain ⟨j, rfl⟩ : ∃ j : Nat, x = j := ⟨x.toNat, by omega⟩
        by_cases h8 : j < 8
        · have hf := HL.out.f j
          have hcj := HL.out.a.g j h8
          have HL2 := hid (HL.out.set h8 (gs' := gs.take (k + 1)) fun i => by rw [HSN.out]; congr 1; exact decide_eq_decide.2 (by omega))
          have HB2 := hid (HB.out.setCell (p := ⟨g + 1, j, none⟩) (Nat.le_succ g) (.bool true))
          go_wp2_with fail
          go_roundw
          case rel => exact ⟨k + 1, by omega, by go_num, HL2, HB2⟩
          case measure => simp [RowKit.intOf]; omega
        · have h8' : ¬ ((j : Int) < 8) := by omega
          have HL2 := hid (HL.out.same (gs' := gs.take (k + 1)) fun i hi => by rw [HSN.out]; simp; omega)
          go_wp2_with fail
          go_roundw
          case rel => exact ⟨k + 1, by omega, by go_num, HL2, HB⟩
          case measure => simp [RowKit.intOf]; omega
      · have HL2 := hid (HL.out.same (gs' := gs.take (k + 1)) fun i hi => by rw [HSN.out]; simp; omega)
        go_wp2_with fail
        go_roundw
        case rel => exact ⟨k + 1, by omega, by go_num, HL2, HB⟩
        case measure => simp [RowKit.intOf]; omega
    · have hke : gs.take k = gs := List.take_of_length_le (by omega)
      rw [hke] at HL
      go_wp2_with fail
      go_ret
      exact ⟨⟨g, g + 1, rfl, HL.out.a⟩, HB.out.mono (Nat.le_of_eq HG.out)⟩

end Go.Proofs.YtfhlpbjdcdagjaaGreatDoor

namespace Go.Proofs.YtfhlpbjdcdagjaaGreatDoor
open Go.RowKit
set_option linter.unusedVariables false
set_option maxRecDepth 100000

inductive Ks
  | is (v : Value)
  | any

def Ks.ok (k : Ks) (u : Value) (w : World) : Prop :=
  match k with
  | .is v => u = v
  | .any => True

theorem Ks.stable (k : Ks) (u : Value) (w w' : World) (h : k.ok u w) (hb : Below w.heap.size w w') : k.ok u w' := by
  cases k with
  | is v => exact h
  | any => trivial

theorem guard_no {ops : Array Oper} {T : Nat → Value → World → Prop} {o : Oper} {g : Nat} {b : Bool} {d : Tmp} (h : o.guard = some (g, b)) (hd : (ops[g]?).bind (·.dst) = some d) (ht : ∀ u w, T d u w → u = .bool (!b)) : GuardIs ops T o false := by
  unfold GuardIs; rw [h]; exact ⟨d, hd, ht⟩

theorem not_written {ops : Array Oper} {k : Nat} (h : (ops.all fun o => o.dst != some k) = true) (j : Nat) (o : Oper) (ho : ops[j]? = some o) : o.dst ≠ some k := by
  have := Array.all_eq_true'.1 h o (Array.mem_of_getElem? ho)
  simpa using this

end Go.Proofs.YtfhlpbjdcdagjaaGreatDoor

namespace Go.Proofs.YtfhlpbjdcdagjaaGreatDoor
open Go.RowKit Go.Lib Go.MapKept Go.Sort Go.Shelf
set_option linter.unusedVariables false
set_option maxRecDepth 100000

def orI (p q : Int) : Int := if p = 0 then q else p

set_option maxHeartbeats 1000000 in
theorem or_any (b : Nat) (p q : Int) (w : World) (h0 : w.cell? ⟨b, 0, none⟩ = some (.int .i64 p)) (h1 : w.cell? ⟨b, 1, none⟩ = some (.int .i64 q)) :
    Calls Tryz.prog 56 #[.slice (some ⟨b, 0, none⟩) 2 2] w fun e w' => e = .returned (.int .i64 (orI p q)) ∧ w' = w := by
  have H0 := hid h0; have H1 := hid h1
  clear h0 h1
  go_enter Tryz.func56, Tryz.ntmps56
  go_wp2_with fail
  go_loopw [8] (fun i wr => ∃ k : Nat, k ≤ 2 ∧ i = .int .i64 k ∧ Hid (1 ≤ k → p = 0) ∧ Hid (2 ≤ k → q = 0) ∧ wr = w) (fun i _ => 2 - (RowKit.intOf i).toNat)
  case atStart => exact ⟨0, by omega, rfl, hid (fun h => absurd h (by omega)), hid (fun h => absurd h (by omega)), rfl⟩
  case round =>
    obtain ⟨k, hk, rfl, HP, HQ, rfl⟩ := hrel
    have hk3 : k = 0 ∨ k = 1 ∨ k = 2 := by omega
    rcases hk3 with rfl | rfl | rfl
    · have h0 := H0.out
      by_cases hp : p = 0
      · subst hp
        go_wp2_with fail
        go_roundw
        case rel => exact ⟨1, by omega, by go_num, by first | exact hid (fun _ => rfl) | exact hid (fun _ => trivial) | trivial, hid (fun h => absurd h (by omega)), by trivial⟩
        case measure => simp [RowKit.intOf]
      · have hr : Hid (p = orI p q) := hid (by unfold orI; rw [if_neg hp])
        go_wp2_with fail
        go_ret
        exact ⟨ret_int hr.out, rfl⟩
    · have h1 := H1.out
      have hp := HP.out (Nat.le_refl _)
      by_cases hq : q = 0
      · have HQ0 := hid hq
        rw [hq] at h1
        clear hq hp
        go_wp2_with fail
        go_roundw
        case rel => exact ⟨2, by omega, by go_num, hid (fun _ => HP.out (Nat.le_refl _)), hid (fun _ => HQ0.out), by trivial⟩
        case measure => simp [RowKit.intOf]
      · have hr : Hid (q = orI p q) := hid (by unfold orI; rw [if_pos hp])
        clear hp
        go_wp2_with fail
        go_ret
        exact ⟨ret_int hr.out, rfl⟩
    · have hr : Hid ((0 : Int) = orI p q) := hid (by unfold orI; rw [if_pos (HP.out (by omega)), HQ.out (by omega)])
      go_wp2_with fail
      go_ret
      exact ⟨ret_int hr.out, rfl⟩

/-- Grown: draws, and blocks behind. -/
def Grw (W w : World) : Prop := ∃ q os, w = grow (W.drewN q) os

theorem Grw.refl (W : World) : Grw W W := ⟨0, #[], by rw [grow_empty]; rfl⟩

theorem Grw.drew {W w : World} (h : Grw W w) : Grw W w.drew := by
  obtain ⟨q, os, rfl⟩ := h
  exact ⟨q + 1, os, rfl⟩

theorem Grw.alloc {W w : World} (h : Grw W w) (o : Obj) : Grw W (w.alloc o) := by
  obtain ⟨q, os, rfl⟩ := h
  exact ⟨q, os ++ #[o], by rw [alloc_eq_grow, grow_grow]⟩

theorem Grw.below {W w : World} (h : Grw W w) : Below W.heap.size W w := by
  obtain ⟨q, os, rfl⟩ := h
  refine ⟨rfl, rfl, rfl, by simp [grow, World.drewN], fun k hk => ?_⟩
  simp [grow, World.drewN, Array.getElem?_append_left hk]

inductive Kc
  | is (v : Value)
  | two (p q : Int)
  | any

def Kc.ok (k : Kc) (u : Value) (w : World) : Prop :=
  match k with
  | .is v => u = v
  | .two p q => ∃ b, u = .slice (some ⟨b, 0, none⟩) 2 2 ∧ b < w.heap.size ∧ w.cell? ⟨b, 0, none⟩ = some (.int .i64 p) ∧ w.cell? ⟨b, 1, none⟩ = some (.int .i64 q)
  | .any => True

theorem Kc.stable (k : Kc) (u : Value) (w w' : World) (h : k.ok u w) (hb : Below w.heap.size w w') : k.ok u w' := by
  cases k with
  | is v => exact h
  | any => trivial
  | two p q =>
    obtain ⟨b, e, hl, h0, h1⟩ := h
    exact ⟨b, e, Nat.lt_of_lt_of_le hl hb.size, (hb.cell (p := ⟨b, 0, none⟩) hl).trans h0, (hb.cell (p := ⟨b, 1, none⟩) hl).trans h1⟩

/-- An entry's cells. -/
def encE (x : Ent) : List Value := [.int .i64 x.1.1, .int .i64 x.1.2, .int .i64 x.2.1.1, .int .i64 x.2.1.2, .int .i64 x.2.2.1, .int .i64 x.2.2.2]

def cfE (x y : Ent) : Int := orI (Lib.compareInt x.1.1 y.1.1) (Lib.compareInt x.1.2 y.1.2)

theorem ltE_iff (x y : Ent) : ltOf cfE x y = true ↔ LtE x y := by
  unfold ltOf cfE orI Lib.compareInt LtE
  rw [decide_eq_true_eq]
  repeat' split
  all_goals omega

theorem swoE : SWO (ltOf cfE) where
  irrefl x := by
    cases h : ltOf cfE x x with
    | false => rfl
    | true => rw [ltE_iff] at h; unfold LtE at h; omega
  trans x y z h1 h2 := by rw [ltE_iff] at *; unfold LtE at *; omega
  ntrans x y z h1 h2 := by
    cases h : ltOf cfE x z with
    | false => rfl
    | true =>
      rw [ltE_iff] at h
      have a : ¬ LtE x y := fun q => by rw [(ltE_iff x y).2 q] at h1; cases h1
      have b : ¬ LtE y z := fun q => by rw [(ltE_iff y z).2 q] at h2; cases h2
      unfold LtE at *
      omega

def slotsC (g0 g1 : Nat) (n n' k k' p q r : Int) : List Kc :=
  [.any, .any, .is (.pointer (some ⟨g0, 0, none⟩)), .is (.pointer (some ⟨g1, 0, none⟩)), .is (.int .i64 r), .is (.pointer (some ⟨g0, 0, none⟩)), .is (.int .i64 n), .is (.pointer (some ⟨g1, 0, none⟩)), .is (.int .i64 n'), .is (.int .i64 p), .is (.pointer (some ⟨g0, 1, none⟩)), .is (.int .i64 k), .is (.pointer (some ⟨g1, 1, none⟩)), .is (.int .i64 k'), .is (.int .i64 q), .two p q, .is (.int .i64 r)]

theorem boxesE (W : World) (x y : Ent) (t : TypeId) : ∃ X, (W.alloc (.cells (encE x).toArray t)).alloc (.cells (encE y).toArray t) = X ∧ Hid (Grw W X) ∧ W.heap.size + 1 < X.heap.size ∧ X.cell? ⟨W.heap.size, 0, none⟩ = some (.int .i64 x.1.1) ∧ X.cell? ⟨W.heap.size, 1, none⟩ = some (.int .i64 x.1.2) ∧ X.cell? ⟨W.heap.size + 1, 0, none⟩ = some (.int .i64 y.1.1) ∧ X.cell? ⟨W.heap.size + 1, 1, none⟩ = some (.int .i64 y.1.2) :=
  ⟨_, rfl, hid (((Grw.refl W).alloc _).alloc _), by simp, by simp [encE], by simp [encE], by simp [encE], by simp [encE]⟩

set_option maxHeartbeats 2000000 in
theorem centry_any (x y : Ent) (W : World) : Calls Tryz.prog 55 #[.agg (encE x).toArray, .agg (encE y).toArray] W fun e w' => e = .returned (.int .i64 (cfE x y)) ∧ ∃ q os', w' = grow (W.drewN q) os' := by
  obtain ⟨X, hX, HG, hlt, c0, c1, c2, c3⟩ := boxesE W x y 37
  obtain ⟨n, k, a1, a2, a3, a4, rfl⟩ := ent_of (x := x)
  obtain ⟨n', k', b1, b2, b3, b4, rfl⟩ := ent_of (x := y)
  simp only [encE] at hX c0 c1 c2 c3 ⊢
  have hp := fun w => Tryz.cmp_Compare_int n n' w
  have hq := fun w => Tryz.cmp_Compare_int k k' w
  have hr : cfE ((n, k), ((a1, a2), (a3, a4))) ((n', k'), ((b1, b2), (b3, b4))) = orI (Lib.compareInt n n') (Lib.compareInt k k') := rfl
  rw [hr]
  clear hr
  generalize Lib.compareInt n n' = p at hp ⊢
  generalize Lib.compareInt k k' = q at hq ⊢
  obtain ⟨r, hr⟩ : ∃ r, orI p q = r := ⟨_, rfl⟩
  have HP := hid hp; have HQ := hid hq; have HR := hid hr
  rw [hr]
  clear hp hq hr
  go_enter Tryz.func55, Tryz.ntmps55
  go_wp2_with fail
  clear hX
  generalize W.heap.size = g at hlt c0 c1 c2 c3 ⊢
  have hlt0 : g < X.heap.size := Nat.lt_of_succ_lt hlt
  refine region_all (T := fun j => ((slotsC g (g + 1) n n' k k' p q r).getD j .any).ok) (G := fun w' => Hid (Grw X w')) (bs := [2, 3]) 17 (by kernel_rfl) rfl (by kernel_rfl) (fun k u w w' => Kc.stable _ u w w') (hid (Grw.refl X).drew) ?_ ?_ ?_
  · refine List.forall_mem_cons.2 ⟨rfl, List.forall_mem_cons.2 ⟨rfl, ?_⟩⟩
    intro k hk; cases hk
  · repeat' (first | exact StepAll.nil | refine StepAll.append ?_ ?_ | refine StepAll.cons ?_ ?_)
    all_goals refine .inl ⟨guard_none rfl, ?_⟩
    all_goals intro K a w' hK hG H
    all_goals obtain ⟨hc, hf⟩ := bcell hG.out.below
    all_goals first
      | (obtain ⟨⟨b, h1, hb, z0, z1⟩, -⟩ := H; change a.tmps.getD _ undef = _ at h1; have g1 := h1; rw [Array.getD_eq_getD_getElem?] at g1)
      | (obtain ⟨h1, h2, -⟩ := H; change a.tmps.getD _ undef = _ at h1; have g1 := h1; rw [Array.getD_eq_getD_getElem?] at g1; change a.tmps.getD _ undef = _ at h2; have g2 := h2; rw [Array.getD_eq_getD_getElem?] at g2)
      | (obtain ⟨h1, -⟩ := H; change a.tmps.getD _ undef = _ at h1; have g1 := h1; rw [Array.getD_eq_getD_getElem?] at g1)
      | skip
    all_goals go_simp
    all_goals first
      | (go_at_call 57; (with_reducible refine (HP.out _).mono ?_); (rintro e w'' ⟨rfl, rfl⟩; exact hK _ _ (fun d hd => by cases hd; exact rfl) hG (Below.refl _ _)))
      | (go_at_call 57; (with_reducible refine (HQ.out _).mono ?_); (rintro e w'' ⟨rfl, rfl⟩; exact hK _ _ (fun d hd => by cases hd; exact rfl) hG (Below.refl _ _)))
      | (go_at_call 56; (with_reducible refine (or_any b p q _ z0 z1).mono ?_); (rw [HR.out]; rintro e w'' ⟨rfl, rfl⟩; exact hK _ _ (fun d hd => by cases hd; exact rfl) hG (Below.refl _ _)))
      | exact hK _ _ (fun d hd => by cases hd; exact rfl) hG (Below.refl _ _)
      | exact hK _ _ (fun d hd => by cases hd; exact ⟨_, rfl, by simp, by simp, by simp⟩) (hid (hG.out.alloc _)) ((Below.refl _ _).alloc (Nat.le_refl _) _)
      | skip
  · intro a w' hd hn hG hkeep hval
    have h4 : a.tmps.getD 4 undef = .int .i64 r := hval 4 (by kernel_rfl)
    clear hval hkeep
    obtain ⟨u, hu⟩ : ∃ u : Nat → Value, u = fun k => a.tmps.getD k undef := ⟨_, rfl⟩
    have ha : a = ⟨(u 0 :: u 1 :: u 2 :: u 3 :: u 4 :: u 5 :: u 6 :: u 7 :: u 8 :: u 9 :: u 10 :: u 11 :: u 12 :: u 13 :: u 14 :: u 15 :: u 16 :: []).toArray, a.defers⟩ := by
      rw [hu]; exact frame_eq hn
    have e4 : u 4 = .int .i64 r := (congrFun hu 4).trans h4
    rw [e4, hd] at ha
    clear hd hn h4 hu
    subst ha
    clear e4
    go_wp2_with fail
    go_ret
    obtain ⟨q1, o1, rfl⟩ := HG.out
    obtain ⟨q2, o2, rfl⟩ := hG.out
    exact ⟨rfl, q1 + q2, o1 ++ o2, by show grow (grow ((W.drewN q1).drewN q2) o1) o2 = _; rw [grow_grow, World.drewN_drewN]⟩

end Go.Proofs.YtfhlpbjdcdagjaaGreatDoor

namespace Go.Proofs.YtfhlpbjdcdagjaaGreatDoor
open Go.RowKit Go.Lib
set_option linter.unusedVariables false
set_option maxRecDepth 100000

/-- A slice of pairs that came in: nil has no room. -/
structure SnIn (w : World) (v : Value) (l : List (Int × Int)) : Prop extends SvIn w v l where
  nil : ∀ n c, v = .slice none n c → n = 0 ∧ c = 0

/-- All of a slice that may be nil is appended to the call's own. -/
theorem wpList_append_maybe {P : Program} {w : World} {ops : Array Oper} {rest : List Oper} {o : Oper} {a : Act} {Q : Exit → Act → World → Prop} (hgd : o.guard = none) (s x : Operand) (t : TypeId)
    (ho : o.op = .call { callee := .builtin .append, args := #[s, x], argTypes := #[t, t] })
    (base : Nat) (e : TypeId) (i : TypeInfo) (z : Value) (size bytes : Nat) (ht : P.underlying t = some (.slice e)) (hi : P.info? e = some i) (hz : i.zero = some z)
    (hsize : i.size = size) (hby : i.bytes = bytes) (hzs : z.cells.size = size) (hsz : 0 < size)
    (v : Value) (n : Nat) (xs : List Value) (hs : a.eval s = v) (hown : w.ownsRow base e size v n xs)
    (A : Option Addr) (m c : Nat) (news : List Value) (hx : a.eval x = .slice A m c) (hnil : A = none → m = 0 ∧ c = 0) (hl : news.length = m * size) (hnews : ∀ ad, A = some ad → ∀ j u, news[j]? = some u → w.cell? (ad.add j) = some u) (h1 : ∀ u ∈ news, u.oneCell' = true)
    (h63 : n + m ≤ maxLen) (hbytes : (n + m) * bytes ≤ 140737488355328) (hbase : base ≤ w.heap.size)
    (h : ∀ v' w', w'.ownsRow base e size v' (n + m) (xs ++ news) → w.grownBy w' v.ownBlock → wpList P ops Q rest (a.put o.dst v') w') : wpList P ops Q (o :: rest) a w := by
  cases A with
  | none =>
    obtain ⟨rfl, rfl⟩ := hnil rfl
    have hn0 : news = [] := List.eq_nil_of_length_eq_zero (by rw [hl]; omega)
    subst hn0
    refine wpList_append_own_none hgd s x t ho base e i size ht hi v n xs hs hown hx (h v w ?_ (turned_refl w _))
    simpa using hown
  | some ad => exact wpList_append_own w hgd s x t ho base e i z size bytes ht hi hz hsize hby hzs hsz v n xs hs hown ad m c news hx hl (hnews ad rfl) h1 h63 hbytes hbase (fun v' w' a b _ => h v' w' a b)

theorem textL_append {p q : List (Int × Int)} (hp : p ≠ []) (hq : q ≠ []) : textL (p ++ q) = textL p ++ ([59, 32] ++ textL q) := by
  induction p with
  | nil => exact absurd rfl hp
  | cons x p ih =>
    cases p with
    | nil => rw [List.cons_append, List.nil_append, textL_cons _ _ hq, textL_one]; simp
    | cons y p =>
      rw [List.cons_append, textL_cons _ _ (by simp), ih (by simp), textL_cons x (y :: p) (by simp)]
      simp

theorem fits_append {p q : List (Int × Int)} (hp : fitsL p = true) (hq : fitsL q = true) (h : (p ++ q).length ≤ 24) : fitsL (p ++ q) = true := by
  rw [fitsL_iff] at hp hq ⊢
  rw [List.all_append, hp.2, hq.2]
  exact ⟨h, rfl⟩

theorem fits_take {p : List (Int × Int)} (hp : fitsL p = true) (k : Nat) : fitsL (p.take k) = true := by
  rw [fitsL_iff] at hp ⊢
  refine ⟨by rw [List.length_take]; omega, ?_⟩
  rw [List.all_eq_true] at hp ⊢
  exact fun x hx => hp.2 x (List.mem_of_mem_take hx)

end Go.Proofs.YtfhlpbjdcdagjaaGreatDoor

namespace Go.Proofs.YtfhlpbjdcdagjaaGreatDoor
open Go.RowKit Go.Lib Go.MapKept Go.Sort Go.Shelf
set_option linter.unusedVariables false
set_option maxRecDepth 100000

def entCells (L : List Ent) : List Value := L.flatMap encE

theorem encE_len (x : Ent) : (encE x).length = 6 := rfl

theorem encE_one (x : Ent) : ∀ v ∈ encE x, v.oneCell' = true := by
  intro v hv
  simp only [encE, List.mem_cons, List.not_mem_nil, or_false] at hv
  rcases hv with rfl | rfl | rfl | rfl | rfl | rfl <;> rfl

theorem entCells_snoc (L : List Ent) (x : Ent) : entCells (L ++ [x]) = entCells L ++ encE x := by simp [entCells]

theorem entCells_len : ∀ L : List Ent, (entCells L).length = L.length * 6
  | [] => rfl
  | x :: L => by
    show (encE x ++ entCells L).length = _
    rw [List.length_append, encE_len, entCells_len L, List.length_cons]
    omega

theorem entCells_get : ∀ (L : List Ent) (j : Nat) (h : j / 6 < L.length), (entCells L)[j]? = (encE L[j / 6])[j % 6]?
  | [], j, h => by simp at h
  | x :: L, j, h => by
    show (encE x ++ entCells L)[j]? = _
    by_cases h6 : j < 6
    · rw [List.getElem?_append_left (by rw [encE_len]; exact h6)]
      have e0 : j / 6 = 0 := by omega
      have e1 : j % 6 = j := by omega
      rw [e1]
      congr 2
      simp [e0]
    · rw [List.getElem?_append_right (by rw [encE_len]; omega), encE_len]
      have hd : (j - 6) / 6 + 1 = j / 6 := by omega
      have hm : (j - 6) % 6 = j % 6 := by omega
      have := entCells_get L (j - 6) (by simp at h; omega)
      rw [this, hm]
      congr 2
      simp [← hd]

theorem flat_get (L : List Ent) (j : Nat) (h : j < L.length * 6) : (entCells L)[j]? = some ((flatK encE 6 L.toArray)[j]!) := by
  rw [get_flatK _ _ _ _ (by simpa using h), entCells_get L j (by omega)]
  have h1 : j / 6 < L.length := by omega
  have h2 : j % 6 < 6 := by omega
  have e1 : L.toArray[j / 6]! = L[j / 6] := by simp [h1]
  have h3 : j % 6 < (encE L[j / 6]).length := by rw [encE_len]; exact h2
  rw [e1, List.getElem?_eq_getElem h3]
  exact congrArg some (getElem!_pos (encE L[j / 6]) (j % 6) h3).symm

/-- A row of the call's own, as a row to be sorted. -/
theorem own_holds {w : World} {B g cap : Nat} {e : TypeId} {L : List Ent} (h : w.ownsRow B e 6 (.slice (some ⟨g, 0, none⟩) L.length cap) L.length (entCells L)) : HoldsK encE 6 w g 0 L.toArray ∧ g < w.heap.size := by
  rcases h.2 with ⟨hv, _⟩ | ⟨g', cap', cur, hv, _, hb, _, _, hsz, htk⟩
  · cases hv
  · injection hv with e1 e2 e3
    injection e1 with e1
    injection e1 with e1
    subst e1
    refine ⟨fun j hj => ?_, (Array.getElem?_eq_some_iff.1 hb).1⟩
    have hj' : j < L.length * 6 := by simpa using hj
    have h1 := flat_get L j hj'
    rw [← htk, List.getElem?_take, if_pos hj', Array.getElem?_toList] at h1
    rw [Nat.zero_add]
    exact ⟨by unfold World.cell?; rw [hb]; simpa using h1, by simp [World.frozen?, hb]⟩

theorem own_sorted {w : World} {B g cap m : Nat} {e : TypeId} {L : List Ent} {d : Array Ent} {os : Array Obj} (h : w.ownsRow B e 6 (.slice (some ⟨g, 0, none⟩) L.length cap) L.length (entCells L)) (hd : d.size = L.length) :
    (sortWorldK encE 6 w g 0 m d os).ownsRow B e 6 (.slice (some ⟨g, 0, none⟩) d.toList.length cap) d.toList.length (entCells d.toList) ∧ w.grownBy (sortWorldK encE 6 w g 0 m d os) (some g) := by
  rcases h.2 with ⟨hv, _⟩ | ⟨g', cap', cur, hv, hB, hb, hn, hc, hsz, htk⟩
  · cases hv
  · injection hv with e1 e2 e3
    injection e1 with e1
    injection e1 with e1
    subst e1
    subst e3
    have hlt := (Array.getElem?_eq_some_iff.1 hb).1
    have hdl : d.toList.length = L.length := by simpa using hd
    have hblk : (sortWorldK encE 6 w g 0 m d os).heap[g]? = some (.cells (putCells id 0 (flatK encE 6 d) cur) e (0, 0)) := by
      unfold sortWorldK
      rw [heap_grow_old _ _ (by simp [putRowK, putRow, mapBlock, hlt])]
      simp [putRowK, putRow, mapBlock, Array.getElem?_modify, hb, onCells]
    refine ⟨⟨by rw [entCells_len], .inr ⟨g, cap, _, by rw [hdl], hB, hblk, by rw [hdl]; exact hn, hc, by simp [putCells, hsz], ?_⟩⟩, rfl, rfl, rfl, by simp [sortWorldK, putRowK, putRow, mapBlock], fun i hi hne => ?_⟩
    · apply List.ext_getElem?
      intro j
      by_cases hj : j < d.toList.length * 6
      · have hcs : j < cur.size := by rw [hsz]; rw [hdl] at hj; exact Nat.lt_of_lt_of_le hj (Nat.mul_le_mul_right 6 hn)
        have e0 : d.toList.toArray = d := by simp
        have := flat_get d.toList j hj
        rw [e0] at this
        rw [List.getElem?_take, if_pos hj, this, Array.getElem?_toList, putCells, Array.getElem?_mapIdx, Array.getElem?_eq_getElem hcs]
        have hj2 : j < d.size * 6 := by simpa using hj
        simp [hj2]
      · rw [List.getElem?_take, if_neg hj, List.getElem?_eq_none (by rw [entCells_len]; omega)]
    · have hig : g ≠ i := fun q => hne (by rw [q])
      unfold sortWorldK
      rw [heap_grow_old _ _ (by simpa [putRowK, putRow, mapBlock, ahead] using hi)]
      simp [putRowK, putRow, mapBlock, Array.getElem?_modify, hig]

/-- Sorted, and at unlike places: it is what rises. -/
theorem sorted_is {D : CTab} (hok : OkT D) {S : Int × Int → Bool} {L : List Ent} {d : Array Ent} (hmem : ∀ x, x ∈ L ↔ D x.1.1 x.1.2 = x.2 ∧ x.2 ≠ z4 ∧ S x.1 = true) (hap : L.Pairwise (fun x y => x.1 ≠ y.1)) (hp : PermIn 0 L.toArray.size L.toArray d) (hs : SortedIn (ltOf cfE) 0 L.toArray.size d) : d.toList = ents D S := by
  obtain ⟨h1, _, h3⟩ := hp
  have hperm : d.toList.Perm L := by
    have e1 : (d.extract 0 L.toArray.size).toList = d.toList := by rw [← h1]; simp
    have e2 : (L.toArray.extract 0 L.toArray.size).toList = L := by simp
    rw [e1, e2] at h3
    exact h3
  have hap' : d.toList.Pairwise (fun x y => x.1 ≠ y.1) := (hperm.symm.pairwise_iff (fun {a b} (h : a.1 ≠ b.1) => h.symm)).1 hap
  refine rising_eq ?_ (entsTo_sorted D S 512) fun x => ?_
  · rw [List.pairwise_iff_getElem]
    intro i j hi hj hij
    have hne := List.pairwise_iff_getElem.1 hap' i j hi hj hij
    have hi' : i < d.size := by simpa using hi
    have hj' : j < d.size := by simpa using hj
    have := hs i j (Nat.zero_le _) hij (by rw [← h1]; exact hj')
    have g1 : ¬ LtE d[j]! d[i]! := fun q => by rw [(ltE_iff _ _).2 q] at this; cases this
    rw [getElem!_pos d i hi', getElem!_pos d j hj'] at g1
    have n1 : d[i].1 ≠ d[j].1 := by simpa using hne
    show LtE d.toList[i] d.toList[j]
    rw [Array.getElem_toList, Array.getElem_toList]
    unfold LtE at g1 ⊢
    have : ¬ (d[i].1.1 = d[j].1.1 ∧ d[i].1.2 = d[j].1.2) := fun q => n1 (by ext <;> simp [q.1, q.2])
    omega
  · rw [hperm.mem_iff, hmem]
    exact (mem_ents hok).symm

end Go.Proofs.YtfhlpbjdcdagjaaGreatDoor

namespace Go.Proofs.YtfhlpbjdcdagjaaGreatDoor
open Go.RowKit Go.Lib Go.MapKept Go.Sort Go.Shelf
open Go.ChangeMaps (setBlock)
set_option linter.unusedVariables false
set_option maxRecDepth 100000

theorem iterSeen_of {w : World} {r : Nat} {m : Option Nat} {a c : Nat} {s : Array Nat} (h : w.heap[r]? = some (.mapIter m a s c)) : w.iterSeen r = s := by
  unfold World.iterSeen; rw [h]

section
variable {w wr : World} {b : Nat} {D : CTab} {es : Array MapEntry} {clk : Nat} {L : List Ent}

theorem TabM.keys_ap (h : TabM w b D es clk L) : es.toList.Pairwise (fun x y => x.key ≠ y.key) := by
  have h1 : (L.map encKV).Pairwise (fun x y => x.1 ≠ y.1) := by
    rw [List.pairwise_map]
    exact h.ap.imp fun {x y} hne e => hne (plcV_inj e)
  rw [← h.l, List.pairwise_map] at h1
  exact h1

/-- A step through a table's map. -/
theorem ctab_next {B r : Nat} {seen : Array Nat} (hM : TabM wr b D es clk L) (hr : wr.heap[r]? = some (.mapIter (some b) clk seen clk)) (hne : b ≠ r) (hb : Below B w wr) (hB : B ≤ r) :
    ((leftOf es seen).size = 0 ∧ ∀ ty, (Instr.next (.pointer (some ⟨r, 0, none⟩)) false ty).run Tryz.prog wr = .ok (.tuple #[.bool false]) wr) ∨
    ∃ (e : MapEntry) (x : Ent) (w2 : World), e ∈ (leftOf es seen).toList ∧ x ∈ L ∧ e.key = plcV x.1 ∧ e.val = c4V x.2 ∧ (∀ ty, (Instr.next (.pointer (some ⟨r, 0, none⟩)) false ty).run Tryz.prog wr = .ok (.tuple #[.bool true, e.key, e.val]) w2) ∧ (Instr.entry (.pointer (some ⟨r, 0, none⟩))).run Tryz.prog w2 = .ok (.tuple #[e.key, e.val]) w2 ∧
      w2.heap[r]? = some (.mapIter (some b) clk (seen.push e.born) clk) ∧ TabM w2 b D es clk L ∧ Below B w w2 ∧ wr.grownBy w2 (some r) := by
  by_cases h0 : ∃ ty, ∃ e ∈ (leftOf es seen).toList, ∃ w1 : World, (w1 = wr ∨ w1 = wr.drew) ∧ (Instr.next (.pointer (some ⟨r, 0, none⟩)) false ty).run Tryz.prog wr = .ok (.tuple #[.bool true, e.key, e.val]) (setBlock w1 r (.mapIter (some b) clk (seen.push e.born) clk))
  · right
    obtain ⟨ty, e, he, w1, hw, hrun⟩ := h0
    have hr1 : w1.heap[r]? = some (.mapIter (some b) clk seen clk) := by rcases hw with rfl | rfl <;> exact hr
    have hb1 : w1.heap[b]? = some (.map es clk) := by rcases hw with rfl | rfl <;> exact hM.blk
    have hbl : Below B w w1 := by
      rcases hw with rfl | rfl
      · exact hb
      · exact hb.drew
    have hlt : r < w1.heap.size := (Array.getElem?_eq_some_iff.1 hr1).1
    have q1 : (setBlock w1 r (.mapIter (some b) clk (seen.push e.born) clk)).heap[r]? = some (.mapIter (some b) clk (seen.push e.born) clk) := block_setBlock ⟨_, hr1⟩
    have hg := grown_setBlock w1 r ⟨_, hr1⟩ (.mapIter (some b) clk (seen.push e.born) clk)
    have hg0 : wr.grownBy w1 (some r) := by
      rcases hw with rfl | rfl
      · exact turned_refl _ _
      · exact turned_drew (turned_refl _ _)
    have q2 := (hg.block b (Array.getElem?_eq_some_iff.1 hb1).1 (fun e => hne (by injection e))).trans hb1
    obtain ⟨x, hx, e1, e2⟩ := hM.at_ (mem_left he).1
    refine ⟨e, x, _, he, hx, e1, e2, fun ty' => hrun, ?_, q1, ⟨q2, hM.born, hM.once, hM.l, hM.ap, hM.mem, hM.ok⟩, hbl.grown hg (by omega) (fun k hk => by injection hk with hk; omega), turned_trans hg0 hg⟩
    exact run_entry_at _ r b clk seen es clk e q1 q2 (mem_left he).1 hM.once
  · left
    have h1 : ∀ ty, (leftOf es seen).size = 0 ∧ (Instr.next (.pointer (some ⟨r, 0, none⟩)) false ty).run Tryz.prog wr = .ok (.tuple #[.bool false]) wr := fun ty => by
      rcases run_next_at (P := Tryz.prog) wr ty r b clk clk seen es clk hr hM.blk hM.born (Nat.le_refl _) with h | h
      · exact h
      · exact absurd ⟨ty, h⟩ h0
    exact ⟨(h1 0).1, fun ty => (h1 ty).2⟩

/-- What has been gathered. -/
structure Gath (S : Int × Int → Bool) (es : Array MapEntry) (L : List Ent) (seen : Array Nat) (L' : List Ent) : Prop where
  sub : ∀ x ∈ L', x ∈ L ∧ S x.1 = true ∧ ∃ e ∈ es.toList, e.key = plcV x.1 ∧ seen.contains e.born = true
  all : ∀ e ∈ es.toList, seen.contains e.born = true → ∀ x ∈ L, e.key = plcV x.1 → S x.1 = true → x ∈ L'
  ap : L'.Pairwise (fun x y => x.1 ≠ y.1)

theorem Gath.start (S : Int × Int → Bool) (es : Array MapEntry) (L : List Ent) : Gath S es L #[] [] :=
  ⟨fun x h => absurd h (by simp), fun e _ h => absurd h (by simp), by simp⟩

theorem contains_pushed {s : Array Nat} {a b : Nat} : (s.push a).contains b = (s.contains b || b == a) := by
  rw [Go.contains_push]

variable {S : Int × Int → Bool} {seen : Array Nat} {L' : List Ent}

theorem Gath.skip (h : Gath S es L seen L') (hM : TabM w b D es clk L) {e : MapEntry} {x : Ent} (he : e ∈ (leftOf es seen).toList) (hx : x ∈ L) (hk : e.key = plcV x.1) (hS : S x.1 = false) : Gath S es L (seen.push e.born) L' := by
  refine ⟨fun y hy => ?_, fun e' he' hc y hy hky hSy => ?_, h.ap⟩
  · obtain ⟨a, c, e', he', hk', hc'⟩ := h.sub y hy
    exact ⟨a, c, e', he', hk', by rw [contains_pushed, hc']; rfl⟩
  · rw [contains_pushed, Bool.or_eq_true] at hc
    rcases hc with hc | hc
    · exact h.all e' he' hc y hy hky hSy
    · have hb : e'.born = e.born := by simpa using hc
      have : e' = e := Go.born_inj hM.once he' (mem_left he).1 hb
      rw [this, hk] at hky
      rw [plcV_inj hky, hSy] at hS
      cases hS

theorem Gath.take (h : Gath S es L seen L') (hM : TabM w b D es clk L) {e : MapEntry} {x : Ent} (he : e ∈ (leftOf es seen).toList) (hx : x ∈ L) (hk : e.key = plcV x.1) (hS : S x.1 = true) : Gath S es L (seen.push e.born) (L' ++ [x]) := by
  obtain ⟨hem, hes⟩ := mem_left he
  refine ⟨fun y hy => ?_, fun e' he' hc y hy hky hSy => ?_, ?_⟩
  · rcases List.mem_append.1 hy with hy | hy
    · obtain ⟨a, c, e', he', hk', hc'⟩ := h.sub y hy
      exact ⟨a, c, e', he', hk', by rw [contains_pushed, hc']; rfl⟩
    · rw [List.mem_singleton.1 hy]
      exact ⟨hx, hS, e, hem, hk, by rw [contains_pushed]; simp⟩
  · rw [contains_pushed, Bool.or_eq_true] at hc
    rcases hc with hc | hc
    · exact List.mem_append_left _ (h.all e' he' hc y hy hky hSy)
    · have hb : e'.born = e.born := by simpa using hc
      have : e' = e := Go.born_inj hM.once he' hem hb
      rw [this, hk] at hky
      have hp := plcV_inj hky
      have h1 := ((hM.mem x).1 hx).1
      have h2 := ((hM.mem y).1 hy).1
      rw [← hp] at h2
      have : y = x := by
        obtain ⟨p, c⟩ := x
        obtain ⟨p', c'⟩ := y
        simp only at hp h1 h2
        rw [← hp, ← h2, ← h1]
      rw [this]
      exact List.mem_append_right _ List.mem_cons_self
  · refine List.pairwise_append.2 ⟨h.ap, by simp, fun y hy z hz => ?_⟩
    rw [List.mem_singleton.1 hz]
    intro hp
    obtain ⟨_, _, e', he', hk', hc'⟩ := h.sub y hy
    have : e' = e := entry_eq_of_key hM.keys_ap he' hem (by rw [hk', hk, hp])
    rw [this, hes] at hc'
    cases hc'

theorem Gath.done (h : Gath S es L seen L') (hM : TabM w b D es clk L) (h0 : (leftOf es seen).size = 0) : ∀ x, x ∈ L' ↔ D x.1.1 x.1.2 = x.2 ∧ x.2 ≠ z4 ∧ S x.1 = true := by
  intro x
  constructor
  · intro hx
    obtain ⟨a, c, _⟩ := h.sub x hx
    obtain ⟨p, q⟩ := (hM.mem x).1 a
    exact ⟨p, q, c⟩
  · rintro ⟨p, q, c⟩
    have hx := (hM.mem x).2 ⟨p, q⟩
    have : encKV x ∈ es.toList.map (fun e => (e.key, e.val)) := by rw [hM.l]; exact List.mem_map.2 ⟨_, hx, rfl⟩
    obtain ⟨e, he, hk⟩ := List.mem_map.1 this
    unfold encKV at hk
    injection hk with hk1 hk2
    exact h.all e he (Go.all_seen es seen h0 e he) x hx hk1 c

theorem Gath.len (h : Gath S es L seen L') (hM : TabM w b D es clk L) : L'.length ≤ 512 := by
  refine Nat.le_trans (len_le_of (m := ents D fun _ => true) h.ap (entsTo_sorted D _ 512) fun x hx => ?_) (ents_len D _)
  obtain ⟨a, _⟩ := h.sub x hx
  exact (mem_ents hM.ok).2 ⟨((hM.mem x).1 a).1, ((hM.mem x).1 a).2, rfl⟩

end

end Go.Proofs.YtfhlpbjdcdagjaaGreatDoor
