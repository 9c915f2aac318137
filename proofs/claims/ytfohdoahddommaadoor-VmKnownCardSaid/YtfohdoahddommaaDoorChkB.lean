/- Layer 5, check: a place is come to: the contract of come. -/
import Derived.Test.YtfohdoahddommaaDoorChkA
namespace Go.Proofs.YtfohdoahddommaaDoor
open Go.RowKit
set_option linter.unusedVariables false
set_option maxRecDepth 100000

theorem comeB_beyond {s : CkS} {t : Nat} (d e : Int) (h : s.D.length ≤ t) : comeB s t d e = true ∧ comeS s t d e = s := by
  unfold comeB comeS
  rw [if_pos h, if_pos h]
  exact ⟨rfl, rfl⟩

theorem come_new {s : CkS} {t : Nat} {d e m : Int} (h : t < s.D.length) (hx : s.D.getD t 0 = -1) (hm : max (s.E.getD t 0) e = m) : comeB s t d e = true ∧ comeS s t d e = { s with D := s.D.set t d, E := s.E.set t m } := by
  refine ⟨(comeB_iff s t d e).2 fun _ => .inl hx, ?_⟩
  unfold comeS
  rw [if_neg (by omega), if_pos hx, hm]

theorem come_old {s : CkS} {t : Nat} {d e m x : Int} (h : t < s.D.length) (hx : s.D.getD t 0 = x) (h1 : x ≠ -1) (hm : max (s.E.getD t 0) e = m) : comeB s t d e = (x == d) ∧ comeS s t d e = { s with E := s.E.set t m } := by
  subst hx
  refine ⟨?_, ?_⟩
  · rw [Bool.eq_iff_iff, comeB_iff]
    simp only [beq_iff_eq]
    constructor
    · intro q
      rcases q h with q | q
      · exact absurd q h1
      · exact q
    · exact fun q _ => .inr q
  · unfold comeS
    rw [if_neg (by omega), if_neg h1, hm]

section
variable {w : World} {b bD bE bM c : Nat} {A : Option Addr} {s : CkS}

/-- One depth is written. -/
theorem WkAt.setD (h : WkAt w b bD bE bM A c s) {t : Nat} (ht : t < s.D.length) (d : Int) : WkAt (w.setCell ⟨bD, t, none⟩ (.int .i64 d)) b bD bE bM A c { s with D := s.D.set t d } := by
  have nD := h.nD; have nDE := h.nDE; have mD := h.mD
  have o1 : ∀ j, (w.setCell ⟨bD, t, none⟩ (.int .i64 d)).cell? ⟨b, j, none⟩ = w.cell? ⟨b, j, none⟩ := fun j => World.cell?_setCell_other _ _ _ _ (by intro e; injection e with e1; exact nD e1.symm)
  have o2 : ∀ j, (w.setCell ⟨bD, t, none⟩ (.int .i64 d)).cell? ⟨bE, j, none⟩ = w.cell? ⟨bE, j, none⟩ := fun j => World.cell?_setCell_other _ _ _ _ (by intro e; injection e with e1; exact nDE e1)
  refine ⟨fun q => h.lA (by simpa using q), by simpa using h.lE, ?_, (o1 _).trans h.c1, (o1 _).trans h.c2, (o1 _).trans h.c3, (o1 _).trans h.c4, (o1 _).trans h.c5, ?_, fun j => by rw [World.frozen?_setCell]; exact h.f j, fun j hj => ?_, fun j hj => ?_, fun j hj => ?_, fun j hj => ?_, nD, h.nE, nDE, h.m.setCell mD _, h.mb, mD, h.mE, by simpa using h.hc⟩
  · rw [o1]; simpa using h.c0
  · rw [o1]; simpa using h.c6
  · have hj' : j < s.D.length := by simpa using hj
    simp only
    rw [getD_set]
    by_cases hjt : j = t
    · subst hjt
      rw [if_pos ⟨rfl, ht⟩, World.cell?_setCell_same _ _ _ (h.cD j ht)]
    · rw [if_neg (fun q => hjt q.1), World.cell?_setCell_other _ _ _ _ (by intro e; injection e with e1 e2; exact hjt (by omega))]
      exact h.cD j hj'
  · rw [World.frozen?_setCell]; exact h.fD j (by simpa using hj)
  · rw [o2]; exact h.cE j (by simpa using hj)
  · rw [World.frozen?_setCell]; exact h.fE j (by simpa using hj)

/-- What was put out on a way is written. -/
theorem WkAt.setE (h : WkAt w b bD bE bM A c s) {t : Nat} (ht : t < s.D.length) (d : Int) : WkAt (w.setCell ⟨bE, t, none⟩ (.int .i64 d)) b bD bE bM A c { s with E := s.E.set t d } := by
  have nE := h.nE; have nDE := h.nDE; have mE := h.mE
  have o1 : ∀ j, (w.setCell ⟨bE, t, none⟩ (.int .i64 d)).cell? ⟨b, j, none⟩ = w.cell? ⟨b, j, none⟩ := fun j => World.cell?_setCell_other _ _ _ _ (by intro e; injection e with e1; exact nE e1.symm)
  have o2 : ∀ j, (w.setCell ⟨bE, t, none⟩ (.int .i64 d)).cell? ⟨bD, j, none⟩ = w.cell? ⟨bD, j, none⟩ := fun j => World.cell?_setCell_other _ _ _ _ (by intro e; injection e with e1; exact nDE e1.symm)
  refine ⟨h.lA, by simpa using h.lE, (o1 _).trans h.c0, (o1 _).trans h.c1, (o1 _).trans h.c2, (o1 _).trans h.c3, (o1 _).trans h.c4, (o1 _).trans h.c5, (o1 _).trans h.c6, fun j => by rw [World.frozen?_setCell]; exact h.f j, fun j hj => ?_, fun j hj => ?_, fun j hj => ?_, fun j hj => ?_, h.nD, nE, nDE, h.m.setCell mE _, h.mb, h.mD, mE, h.hc⟩
  · rw [o2]; exact h.cD j hj
  · rw [World.frozen?_setCell]; exact h.fD j hj
  · simp only
    rw [getD_set, h.lE]
    by_cases hjt : j = t
    · subst hjt
      rw [if_pos ⟨rfl, ht⟩, World.cell?_setCell_same _ _ _ (h.cE j ht)]
    · rw [if_neg (fun q => hjt q.1), World.cell?_setCell_other _ _ _ _ (by intro e; injection e with e1 e2; exact hjt (by omega))]
      exact h.cE j hj
  · rw [World.frozen?_setCell]; exact h.fE j hj

theorem WkAt.heap {w' : World} (h : WkAt w b bD bE bM A c s) (e : w'.heap = w.heap) : WkAt w' b bD bE bM A c s :=
  h.keep (fun x o _ => ⟨World.cell?_of_block (by rw [e]), World.frozen?_of_block (by rw [e])⟩) (by rw [e])
end

theorem one_other (w : World) {x p : Nat} (i : Nat) (v : Value) {j : Nat} (h : x ≠ p) : (w.setCell ⟨p, i, none⟩ v).drew.cell? ⟨x, j, none⟩ = w.cell? ⟨x, j, none⟩ := by
  show (w.setCell ⟨p, i, none⟩ v).cell? ⟨x, j, none⟩ = _
  exact World.cell?_setCell_other _ _ _ _ (by intro e; injection e with e1; exact h e1.symm)

theorem two_other (w : World) {x p q : Nat} (i j : Nat) (v u : Value) {m : Nat} (h : x ≠ p) (h' : x ≠ q) : ((w.setCell ⟨p, i, none⟩ v).setCell ⟨q, j, none⟩ u).drew.cell? ⟨x, m, none⟩ = w.cell? ⟨x, m, none⟩ := by
  show ((w.setCell ⟨p, i, none⟩ v).setCell ⟨q, j, none⟩ u).cell? ⟨x, m, none⟩ = _
  rw [World.cell?_setCell_other _ _ _ _ (by intro e; injection e with e1; exact h' e1.symm), World.cell?_setCell_other _ _ _ _ (by intro e; injection e with e1; exact h e1.symm)]

set_option maxHeartbeats 2000000 in
theorem come_any (b bD bE bM c : Nat) (A : Option Addr) (s : CkS) (t : Nat) (d e : Int) (w : World) (h : WkAt w b bD bE bM A c s) (ht : t ≤ 1000000000) :
    Calls Tryd.prog 68 #[.pointer (some ⟨b, 0, none⟩), .int .i64 t, .int .i64 d, .int .i64 e] w fun r w' => r = .returned (.bool (comeB s t d e)) ∧ WkAt w' b bD bE bM A c (comeS s t d e) ∧ (∀ B, B ≤ bD → B ≤ bE → B ≤ w.heap.size → Below B w w') ∧ ∀ x o, x ≠ bD → x ≠ bE → w'.cell? ⟨x, o, none⟩ = w.cell? ⟨x, o, none⟩ := by
  by_cases hlt : t < s.D.length
  · obtain rfl := h.lA (by omega)
    have nDE := h.nDE; have nD := h.nD; have nE := h.nE
    have c0 := h.c0; have c6 := h.c6
    have d0 := h.cD t hlt; have g0 := h.fD t hlt
    have e0 := h.cE t hlt; have k0 := h.fE t hlt
    obtain ⟨n, hn⟩ : ∃ n, s.D.length = n := ⟨_, rfl⟩
    obtain ⟨x, hx⟩ : ∃ x, s.D.getD t 0 = x := ⟨_, rfl⟩
    obtain ⟨y, hy⟩ : ∃ y, s.E.getD t 0 = y := ⟨_, rfl⟩
    have HH := hid h; clear h
    have HLT : Hid (t < s.D.length) := hid hlt
    rw [hx] at d0; rw [hy] at e0; rw [hn] at c0 c6 hlt
    have HN := hid hn; have HX := hid hx; have HY := hid hy; clear hn hx hy
    have hcc := HH.out.hc
    rw [HN.out] at hcc
    by_cases h1 : x = -1
    · subst h1
      go_enter Tryd.func68, Tryd.ntmps68
      go_wp2_with fail
      go_region
      go_wp2_with fail
      all_goals
        have HM := hid h; clear h
        go_ret
      · obtain ⟨q1, q2⟩ := come_new (d := d) (e := e) (m := e) HLT.out HX.out (by rw [HY.out]; exact Int.max_eq_right (by have := HM.out; omega))
        rw [q1, q2]
        exact ⟨rfl, ((HH.out.setD HLT.out d).setE (by simpa using HLT.out) e).heap rfl, fun B h1 h2 h3 => (((Below.refl _ w).setCell h1 _).setCell h2 _).drew, fun z i n1 n2 => two_other w _ _ _ _ n1 n2⟩
      · obtain ⟨q1, q2⟩ := come_new (d := d) (e := e) (m := y) HLT.out HX.out (by rw [HY.out]; exact Int.max_eq_left (by have := HM.out; omega))
        rw [q1, q2]
        exact ⟨rfl, ((HH.out.setD HLT.out d).setE (by simpa using HLT.out) y).heap rfl, fun B h1 h2 h3 => (((Below.refl _ w).setCell h1 _).setCell h2 _).drew, fun z i n1 n2 => two_other w _ _ _ _ n1 n2⟩
    · have hx1 : (x == -1) = false := by simpa using h1
      have HX1 := hid h1; clear h1
      go_enter Tryd.func68, Tryd.ntmps68
      go_wp2_with fail
      clear hx1
      go_region
      go_wp2_with fail
      all_goals
        have HM := hid h; clear h
        go_ret
      · obtain ⟨q1, q2⟩ := come_old (d := d) (e := e) (m := e) HLT.out HX.out HX1.out (by rw [HY.out]; exact Int.max_eq_right (by have := HM.out; omega))
        rw [q1, q2]
        exact ⟨rfl, (HH.out.setE HLT.out e).heap rfl, fun B h1 h2 h3 => ((Below.refl _ w).setCell h2 _).drew, fun z i n1 n2 => one_other w _ _ n2⟩
      · obtain ⟨q1, q2⟩ := come_old (d := d) (e := e) (m := y) HLT.out HX.out HX1.out (by rw [HY.out]; exact Int.max_eq_left (by have := HM.out; omega))
        rw [q1, q2]
        exact ⟨rfl, (HH.out.setE HLT.out y).heap rfl, fun B h1 h2 h3 => ((Below.refl _ w).setCell h2 _).drew, fun z i n1 n2 => one_other w _ _ n2⟩
  · obtain ⟨e1, e2⟩ := comeB_beyond (s := s) d e (t := t) (by omega)
    rw [e1, e2]
    have c0 := h.c0
    have HH := hid h; clear h e1 e2
    have hlt' : s.D.length ≤ t := by omega
    obtain ⟨n, hn⟩ : ∃ n, s.D.length = n := ⟨_, rfl⟩
    rw [hn] at c0 hlt'
    clear hn hlt
    go_enter Tryd.func68, Tryd.ntmps68
    go_wp2_with fail
    go_ret
    exact ⟨rfl, HH.out, fun B _ _ _ => Below.refl _ _, fun z i _ _ => rfl⟩

end Go.Proofs.YtfohdoahddommaaDoor
