/- Layer 5, check: an instruction is passed: the contract of pass. -/
import Derived.Test.YtfhlpbjdcdagjaaGreatDoorHai
import Derived.Deep.QuietTactic
import Derived.BigQuiet
import Derived.Deep.DeepCutAuto
import Derived.Deep.CutBlock
import Derived.Test.YtfhlpbjdcdagjaaGreatDoorHae
import Derived.Deep.RegionLaw
namespace Go.Proofs.YtfhlpbjdcdagjaaGreatDoor
open Go.RowKit
set_option linter.unusedVariables false
set_option maxRecDepth 100000

/-- What pass answers. -/
def PassOut (w' : World) (b bD bE bM c : Nat) (A : Option Addr) (q : Option CkS) (β : Bool) : Prop :=
  match q with
  | some s' => β = true ∧ WkAt w' b bD bE bM A c s'
  | none => β = false

theorem box1_of (w : World) (t : TypeId) (m n : Value) : ∃ W : World, w.alloc (.cells #[m, n] t) = W ∧
    (W.cell? ⟨w.heap.size, 0, none⟩ = some m ∧ W.cell? ⟨w.heap.size, 1, none⟩ = some n) ∧ w.heap.size < W.heap.size ∧ Hid (Below w.heap.size w W) := by
  refine ⟨_, rfl, ⟨?_, ?_⟩, ?_, hid ((Below.refl _ w).alloc (Nat.le_refl _) _)⟩
  all_goals simp

theorem WkAt.below {w w' : World} {b bD bE bM c : Nat} {A : Option Addr} {s : CkS} (h : WkAt w b bD bE bM A c s) (hn : 0 < s.D.length) (hb : Below w.heap.size w w') : WkAt w' b bD bE bM A c s :=
  h.keep (fun x o hx => by
    have hl : x < w.heap.size := by
      rcases hx with rfl | rfl | ⟨rfl, _⟩
      · exact h.lt
      · exact h.ltE hn
      · exact h.ltD hn
    exact ⟨(bcell hb).1 x o hl, (bcell hb).2 x o hl⟩) (hb.block bM h.m.lt)

/-- One of the cells 1 to 4 is written. -/
theorem WkAt.setB {w : World} {b bD bE bM c : Nat} {A : Option Addr} {s : CkS} (h : WkAt w b bD bE bM A c s) (s' : CkS) (hD : s'.D = s.D) (hE : s'.E = s.E) (i : Nat) (v : Value) (i1 : 1 ≤ i) (i4 : i ≤ 4)
    (h1 : (if i = 1 then v else .int .i64 s.mx) = .int .i64 s'.mx) (h2 : (if i = 2 then v else .int .i64 s.em) = .int .i64 s'.em) (h3 : (if i = 3 then v else .bool s.u0) = .bool s'.u0) (h4 : (if i = 4 then v else .bool s.u1) = .bool s'.u1) :
    WkAt (w.setCell ⟨b, i, none⟩ v) b bD bE bM A c s' := by
  have o1 : ∀ x j, x ≠ b → (w.setCell ⟨b, i, none⟩ v).cell? ⟨x, j, none⟩ = w.cell? ⟨x, j, none⟩ := fun x j hx => World.cell?_setCell_other _ _ _ _ (by intro e; injection e with e1; exact hx e1.symm)
  have o2 : ∀ j, j ≠ i → (w.setCell ⟨b, i, none⟩ v).cell? ⟨b, j, none⟩ = w.cell? ⟨b, j, none⟩ := fun j hj => World.cell?_setCell_other _ _ _ _ (by intro e; injection e with e1 e2; exact hj e2.symm)
  have key : ∀ j u u', w.cell? ⟨b, j, none⟩ = some u → (if i = j then v else u) = u' → (w.setCell ⟨b, i, none⟩ v).cell? ⟨b, j, none⟩ = some u' := by
    intro j u u' hu hq
    by_cases hj : i = j
    · subst hj
      rw [if_pos rfl] at hq
      rw [World.cell?_setCell_same _ _ _ hu, hq]
    · rw [if_neg hj] at hq
      rw [o2 j (fun q => hj q.symm), hu, hq]
  have hf : ∀ x : Addr, (w.setCell ⟨b, i, none⟩ v).frozen? x = w.frozen? x := fun x => World.frozen?_setCell _ _ _ _
  exact ⟨fun q => h.lA (by rw [← hD]; exact q), by rw [hD, hE]; exact h.lE, by rw [o2 0 (by omega), hD]; exact h.c0, key 1 _ _ h.c1 h1, key 2 _ _ h.c2 h2, key 3 _ _ h.c3 h3, key 4 _ _ h.c4 h4,
    (o2 5 (by omega)).trans h.c5, by rw [o2 6 (by omega), hD]; exact h.c6, fun j => by rw [hf]; exact h.f j, fun j hj => by rw [hD] at hj ⊢; rw [o1 _ _ h.nD.symm]; exact h.cD j hj, fun j hj => by rw [hD] at hj; rw [hf]; exact h.fD j hj,
    fun j hj => by rw [hD] at hj; rw [hE, o1 _ _ h.nE.symm]; exact h.cE j hj, fun j hj => by rw [hD] at hj; rw [hf]; exact h.fE j hj, h.nD, h.nE, h.nDE, h.m.setCell h.mb _, h.mb, h.mD, h.mE, by rw [hD]; exact h.hc⟩

def PassPost (w : World) (b bD bE bM c : Nat) (A : Option Addr) (q : Option CkS) (r : Ending) (w' : World) : Prop :=
  ∃ β, r = .returned (.bool β) ∧ PassOut w' b bD bE bM c A q β ∧ ∀ B, B ≤ b → B ≤ bD → B ≤ bE → B ≤ w.heap.size → Below B w w'

/-- While an instruction is passed: its own box gi, its effect's box ge. -/
structure PsAt (W w : World) (b bD bE bM c : Nat) (A : Option Addr) (s : CkS) (gi ge : Nat) (o a tk lv : Int) : Prop where
  wk : WkAt w b bD bE bM A c s
  i0 : w.cell? ⟨gi, 0, none⟩ = some (.int .i64 o)
  i1 : w.cell? ⟨gi, 1, none⟩ = some (.int .i64 a)
  e0 : w.cell? ⟨ge, 0, none⟩ = some (.int .i64 tk)
  e1 : w.cell? ⟨ge, 1, none⟩ = some (.int .i64 lv)
  ni : gi ≠ b
  ne : ge ≠ b
  bel : ∀ B, B ≤ b → B ≤ bD → B ≤ bE → B ≤ W.heap.size → Below B W w

theorem PsAt.setB {W w : World} {b bD bE bM c gi ge : Nat} {A : Option Addr} {s : CkS} {o a tk lv : Int} (h : PsAt W w b bD bE bM c A s gi ge o a tk lv) (s' : CkS) (hD : s'.D = s.D) (hE : s'.E = s.E) (i : Nat) (v : Value) (i1 : 1 ≤ i) (i4 : i ≤ 4)
    (h1 : (if i = 1 then v else .int .i64 s.mx) = .int .i64 s'.mx) (h2 : (if i = 2 then v else .int .i64 s.em) = .int .i64 s'.em) (h3 : (if i = 3 then v else .bool s.u0) = .bool s'.u0) (h4 : (if i = 4 then v else .bool s.u1) = .bool s'.u1) :
    PsAt W (w.setCell ⟨b, i, none⟩ v) b bD bE bM c A s' gi ge o a tk lv := by
  have o1 : ∀ x j, x ≠ b → (w.setCell ⟨b, i, none⟩ v).cell? ⟨x, j, none⟩ = w.cell? ⟨x, j, none⟩ := fun x j hx => World.cell?_setCell_other _ _ _ _ (by intro e; injection e with e1; exact hx e1.symm)
  exact ⟨h.wk.setB s' hD hE i v i1 i4 h1 h2 h3 h4, (o1 _ _ h.ni).trans h.i0, (o1 _ _ h.ni).trans h.i1, (o1 _ _ h.ne).trans h.e0, (o1 _ _ h.ne).trans h.e1, h.ni, h.ne, fun B q1 q2 q3 q4 => (h.bel B q1 q2 q3 q4).setCell q1 _⟩

theorem PsAt.heap {W w w' : World} {b bD bE bM c gi ge : Nat} {A : Option Addr} {s : CkS} {o a tk lv : Int} (h : PsAt W w b bD bE bM c A s gi ge o a tk lv) (e : w' = w.drew) : PsAt W w' b bD bE bM c A s gi ge o a tk lv := by
  subst e
  exact ⟨h.wk.heap rfl, h.i0, h.i1, h.e0, h.e1, h.ni, h.ne, fun B q1 q2 q3 q4 => (h.bel B q1 q2 q3 q4).drew⟩

theorem ps_start {w V : World} {b bD bE bM c : Nat} {A : Option Addr} {s : CkS} {o a tk lv : Int} (hw : b < w.heap.size) (hV : Hid (Below w.heap.size w V)) (l0 : w.heap.size < V.heap.size) (HH : Hid (WkAt V b bD bE bM A c s)) (hn : 0 < s.D.length)
    (j0 : V.cell? ⟨w.heap.size, 0, none⟩ = some (.int .i64 o)) (j1 : V.cell? ⟨w.heap.size, 1, none⟩ = some (.int .i64 a)) :
    PsAt w (V.alloc (.cells #[.int .i64 tk, .int .i64 lv] 203)).drew b bD bE bM c A s w.heap.size V.heap.size o a tk lv := by
  have hb := (Below.refl V.heap.size V).alloc (Nat.le_refl _) (.cells #[.int .i64 tk, .int .i64 lv] 203)
  have hc := (bcell hb).1
  refine ⟨(HH.out.below hn hb).heap rfl, (hc _ _ l0).trans j0, (hc _ _ l0).trans j1, ?_, ?_, by omega, by have := HH.out.lt; omega, fun B q1 q2 q3 q4 => ((hV.out.trans (hb.mono hV.out.size)).mono q4).drew⟩
  · show (V.alloc _).cell? _ = _
    simp
  · show (V.alloc _).cell? _ = _
    simp

theorem useS_none {s : CkS} {o : Int} (a : Int) (h : ¬ (o = 4 ∨ o = 5)) : useS s o a = s := by
  unfold useS; rw [decide_eq_false h]; simp
theorem useS_0 {s : CkS} {o : Int} (h : o = 4 ∨ o = 5) : useS s o 0 = { s with u0 := true } := by
  unfold useS; rw [decide_eq_true h]; simp
theorem useS_1 {s : CkS} {o : Int} (h : o = 4 ∨ o = 5) : useS s o 1 = { s with u1 := true } := by
  unfold useS; rw [decide_eq_true h]; simp
theorem em_none {o : Int} (h : o ≠ 14) : emI o = 0 := by unfold emI; rw [if_neg h]
theorem cell_in {o a : Int} (hr : rightI (o, a) = true) (h : o = 4 ∨ o = 5) : a = 0 ∨ a = 1 := by
  have h2 : loI o = 0 := by rcases h with rfl | rfl <;> rfl
  have h3 : hiI o = 1 := by rcases h with rfl | rfl <;> rfl
  unfold rightI at hr
  simp only [Bool.and_eq_true, decide_eq_true_eq] at hr
  omega

theorem comes_app : ∀ (a b : List Nat) (s : CkS) (d e : Int), comes s (a ++ b) d e = (comes s a d e).bind fun s' => comes s' b d e
  | [], b, s, d, e => rfl
  | t :: a, b, s, d, e => by
    show (if comeB s t d e then comes (comeS s t d e) (a ++ b) d e else none) = Option.bind (if comeB s t d e then comes (comeS s t d e) a d e else none) _
    split
    · exact comes_app a b _ d e
    · rfl

theorem comes_take {s s' : CkS} {ts : List Nat} {k t : Nat} {d e : Int} (h : comes s (ts.take k) d e = some s') (ht : ts[k]? = some t) : comes s (ts.take (k + 1)) d e = if comeB s' t d e then some (comeS s' t d e) else none := by
  rw [List.take_add_one, ht, comes_app, h]
  rfl

theorem comes_stop {s s' : CkS} {ts : List Nat} {k t : Nat} {d e : Int} (h : comes s (ts.take k) d e = some s') (ht : ts[k]? = some t) (hb : comeB s' t d e = false) : comes s ts d e = none := by
  rw [← List.take_append_drop (k + 1) ts, comes_app, comes_take h ht, hb]
  rfl

theorem jump_in {o a : Int} (hr : rightI (o, a) = true) (h : o = 15 ∨ o = 16) : 0 ≤ a ∧ a ≤ 1000000 := by
  have h2 : loI o = 1 := by rcases h with rfl | rfl <;> rfl
  have h3 : hiI o = 24 := by rcases h with rfl | rfl <;> rfl
  unfold rightI at hr
  simp only [Bool.and_eq_true, decide_eq_true_eq] at hr
  omega

theorem next_len (k : Nat) (o a : Int) : (nextN k o a).length ≤ 2 := by
  unfold nextN
  split
  · simp
  · split
    · simp
    · split <;> simp

theorem next_le {k : Nat} {o a : Int} (hk : k ≤ 1000) (h : o = 15 ∨ o = 16 → 0 ≤ a ∧ a ≤ 1000000) : ∀ t ∈ nextN k o a, t ≤ 1000000000 := by
  unfold nextN
  intro t ht
  split at ht
  · simp at ht
  · split at ht
    · have := h (.inl ‹_›); simp at ht; omega
    · split at ht
      · have := h (.inr ‹_›); simp at ht; omega
      · simp at ht; omega

theorem em_in (o : Int) : 0 ≤ emI o ∧ emI o ≤ 1 := by unfold emI; split <;> omega
theorem tk_in (o : Int) : 0 ≤ tkI o ∧ tkI o ≤ 2 := by unfold tkI; split <;> (try split) <;> omega
theorem lv_in (o : Int) : 0 ≤ lvI o ∧ lvI o ≤ 2 := by unfold lvI; split <;> (try split) <;> omega

set_option maxRecDepth 100000 in
set_option maxHeartbeats 1500000 in
theorem pass_any (b bD bE bM c : Nat) (A : Option Addr) (s : CkS) (k : Nat) (o a : Int) (w : World) (h : WkAt w b bD bE bM A c s) (hk : k < s.D.length) (hn : s.D.length ≤ 1000) (hr : Hid (rightI (o, a) = true))
    (hd : Hid (0 ≤ s.D.getD k 0 ∧ s.D.getD k 0 ≤ 8)) (he : Hid (0 ≤ s.E.getD k 0 ∧ s.E.getD k 0 ≤ 4)) :
    Calls Tryz.prog 112 #[.pointer (some ⟨b, 0, none⟩), .int .i64 k, val o a] w fun r w' => PassPost w b bD bE bM c A (passS s k o a) r w' := by
  have hwb := h.lt
  obtain ⟨h0, h1, _, _⟩ := rightI_bounds hr.out
  change 0 ≤ o at h0
  change o ≤ 17 at h1
  obtain ⟨x, hx⟩ : ∃ x, s.D.getD k 0 = x := ⟨_, rfl⟩
  obtain ⟨y, hy⟩ : ∃ y, s.E.getD k 0 = y := ⟨_, rfl⟩
  obtain ⟨tk, htk⟩ : ∃ y, tkI o = y := ⟨_, rfl⟩
  obtain ⟨lv, hlv⟩ : ∃ y, lvI o = y := ⟨_, rfl⟩
  rw [hx] at hd; rw [hy] at he
  have HK : Hid (k < s.D.length) := hid hk
  go_enter Tryz.func112, Tryz.ntmps112
  go_upto_region 1 with fail
  obtain ⟨V, hV, ⟨j0, j1⟩, l0, HV⟩ := box1_of w 88 (.int .i64 o) (.int .i64 a)
  rw [hV]; clear hV
  have HH := hid (h.below (by omega) HV.out)
  clear h
  go_cut [7, 8, 9] (fun s7 s8 s9 wx => s7 = .pointer (some ⟨V.heap.size, 0, none⟩) ∧ s8 = .int .i64 x ∧ s9 = .int .i64 y ∧ Hid (PsAt w wx b bD bE bM c A s w.heap.size V.heap.size o a tk lv))
  case first =>
    obtain rfl := HH.out.lA (by omega)
    have c0 := HH.out.c0; have c5 := HH.out.c5; have c6 := HH.out.c6
    have d0 := HH.out.cD k hk; have e0 := HH.out.cE k hk
    have hcc := HH.out.hc
    have hlk := eff_look (w := V) HH.out.m h0 h1
    have hlk' := eff_look (w := V.drew) HH.out.m h0 h1
    have hlk2 := eff_look (w := (V.alloc (.cells #[.int .i64 0, .int .i64 0] 203)).drew) (HH.out.m.alloc _) h0 h1
    have lb := HH.out.lt
    have lE := HH.out.ltE (by omega)
    have lD := HH.out.ltD (by omega)
    have HP := hid (ps_start (tk := tk) (lv := lv) hwb HV l0 HH (by omega) j0 j1)
    obtain ⟨n, hn⟩ : ∃ n, s.D.length = n := ⟨_, rfl⟩
    rw [hx] at d0; rw [hy] at e0; rw [hn] at c0 c6 hk hcc; rw [htk, hlv] at hlk hlk' hlk2
    clear hn hx hy htk hlv
    go_region
    all_goals (go_wp2_with fail; go_meet; exact ⟨rfl, rfl, rfl, HP⟩)
  case rest =>
    obtain ⟨rfl, rfl, rfl, hps⟩ := hcut
    clear j0 j1 l0 HV HH
    have HX := hid hx; have HY := hid hy; have HT := hid htk; have HL := hid hlv
    have t0 : 0 ≤ tk ∧ tk ≤ 2 := by rw [← htk]; exact tk_in o
    have t1 : 0 ≤ lv ∧ lv ≤ 2 := by rw [← hlv]; exact lv_in o
    obtain ⟨t00, t01⟩ := t0
    obtain ⟨t10, t11⟩ := t1
    obtain ⟨x0, x1⟩ := hd.out
    obtain ⟨y0, y1⟩ := he.out
    clear hx hy htk hlv hd he
    have i0 := hps.out.i0; have i1 := hps.out.i1; have e0 := hps.out.e0; have e1 := hps.out.e1
    go_upto_block 0 with fail
    have l0 : -2 ≤ x - tk + lv ∧ x - tk + lv ≤ 10 := by omega
    obtain ⟨l00, l01⟩ := l0
    generalize hlf : x - tk + lv = lf at l00 l01 ⊢
    have HLF := hid hlf; clear hlf
    obtain ⟨em, hem⟩ : ∃ z, y + emI o = z := ⟨_, rfl⟩
    have hee := em_in o
    have m0 : 0 ≤ em ∧ em ≤ 5 := by omega
    obtain ⟨m00, m01⟩ := m0
    have HEM := hid hem; clear hem hee
    go_cut [9] (fun s9 wx => s9 = .int .i64 em ∧ Hid (PsAt w wx b bD bE bM c A (useS s o a) w.heap.size V.heap.size o a tk lv))
    case first =>
      by_cases o14 : o = 14
      · subst o14
        go_wp2_with fail
        go_meet
        exact ⟨by rw [← HEM.out]; rfl, by rw [useS_none a (by omega)]; exact hps⟩
      have n14 : (o == 14) = false := by simpa using o14
      have HE0 : Hid (emI o = 0) := hid (em_none o14)
      clear o14
      by_cases o45 : o = 4 ∨ o = 5
      · have H45 := hid o45
        have c3 := hps.out.wk.c3; have c4 := hps.out.wk.c4; have f3 := hps.out.wk.f 3; have f4 := hps.out.wk.f 4
        rcases cell_in hr.out o45 with ha | ha
        · have HP3 : Hid (PsAt w (wc.setCell ⟨b, 3, none⟩ (.bool true)).drew b bD bE bM c A (useS s o a) w.heap.size V.heap.size o a tk lv) := hid (by
            rw [ha, useS_0 o45]
            rw [ha] at hps
            exact (hps.out.setB { s with u0 := true } rfl rfl 3 (.bool true) (by omega) (by omega) rfl rfl rfl rfl).heap rfl)
          subst ha
          rcases o45 with rfl | rfl
          all_goals
            go_wp2_with fail
            go_region
            go_wp2_with fail
            go_meet
            exact ⟨by rw [← HEM.out, HE0.out, Int.add_zero], HP3⟩
        · have HP4 : Hid (PsAt w (wc.setCell ⟨b, 4, none⟩ (.bool true)).drew b bD bE bM c A (useS s o a) w.heap.size V.heap.size o a tk lv) := hid (by
            rw [ha, useS_1 o45]
            rw [ha] at hps
            exact (hps.out.setB { s with u1 := true } rfl rfl 4 (.bool true) (by omega) (by omega) rfl rfl rfl rfl).heap rfl)
          subst ha
          rcases o45 with rfl | rfl
          all_goals
            go_wp2_with fail
            go_region
            go_wp2_with fail
            go_meet
            exact ⟨by rw [← HEM.out, HE0.out, Int.add_zero], HP4⟩
      · have n4 : (o == 4) = false := by simp; omega
        have n5 : (o == 5) = false := by simp; omega
        have HO := hid o45; clear o45
        go_wp2_with fail
        go_meet
        exact ⟨by rw [← HEM.out, HE0.out, Int.add_zero], by rw [useS_none a HO.out]; exact hps⟩
    case rest =>
      obtain ⟨rfl, hps2⟩ := hcut
      clear i0 i1 e0 e1 hps
      have i0 := hps2.out.i0; have i1 := hps2.out.i1; have e0 := hps2.out.e0; have e1 := hps2.out.e1
      obtain ⟨s2, hs2⟩ : ∃ z, ({ useS s o a with mx := max s.mx lf, em := max s.em em } : CkS) = z := ⟨_, rfl⟩
      have HPS : Hid (passS s k o a = if x < tk ∨ 8 < lf ∨ 4 < em then none else comes s2 (nextN k o a) lf em) := hid (by
        unfold passS
        rw [← hs2, HX.out, HY.out, HEM.out, HT.out, show leftI o x = lf by unfold leftI; rw [HT.out, HL.out, HLF.out]])
      have HS2 := hid hs2; clear hs2
      by_cases q1 : x < tk
      · go_wp2_with fail
        go_ret
        exact ⟨false, rfl, by rw [HPS.out, if_pos (.inl q1)]; rfl, hps2.out.bel⟩
      by_cases q2 : 8 < lf
      · go_wp2_with fail
        go_ret
        exact ⟨false, rfl, by rw [HPS.out, if_pos (.inr (.inl q2))]; rfl, hps2.out.bel⟩
      by_cases q3 : 4 < em
      · go_wp2_with fail
        go_ret
        exact ⟨false, rfl, by rw [HPS.out, if_pos (.inr (.inr q3))]; rfl, hps2.out.bel⟩
      have HPT : Hid (passS s k o a = comes s2 (nextN k o a) lf em) := hid (by rw [HPS.out, if_neg (by omega)])
      clear HPS
      go_upto_region 11 with fail
      go_cut [] (fun wx => Hid (PsAt w wx b bD bE bM c A s2 w.heap.size V.heap.size o a tk lv))
      case first =>
        have c1 := hps2.out.wk.c1; have c2 := hps2.out.wk.c2; have f1 := hps2.out.wk.f 1; have f2 := hps2.out.wk.f 2
        have hu1 : (useS s o a).mx = s.mx := rfl
        have hu2 : (useS s o a).em = s.em := rfl
        rw [hu1] at c1; rw [hu2] at c2
        clear hu1 hu2
        obtain ⟨mo, hmo⟩ : ∃ z, s.mx = z := ⟨_, rfl⟩
        obtain ⟨eo, heo⟩ : ∃ z, s.em = z := ⟨_, rfl⟩
        rw [hmo] at c1; rw [heo] at c2
        have HW : Hid (∀ p q : Int, max s.mx lf = p → max s.em em = q → PsAt w ((wc.setCell ⟨b, 1, none⟩ (.int .i64 p)).setCell ⟨b, 2, none⟩ (.int .i64 q)).drew b bD bE bM c A s2 w.heap.size V.heap.size o a tk lv) := hid (fun p q hp hq => by
          rw [← HS2.out]
          subst hp; subst hq
          exact ((hps2.out.setB { useS s o a with mx := max s.mx lf } rfl rfl 1 _ (by omega) (by omega) rfl rfl rfl rfl).setB { useS s o a with mx := max s.mx lf, em := max s.em em } rfl rfl 2 _ (by omega) (by omega) rfl rfl rfl rfl).heap rfl)
        rw [hmo, heo] at HW
        clear hmo heo
        go_region
        go_wp2_with fail
        all_goals
          go_meet
          exact HW.out _ _ (by omega) (by omega)
      case rest =>
        clear i0 i1 e0 e1 q1 q2 q3
        have i0 := hcut.out.i0; have i1 := hcut.out.i1
        have hn2 : s2.D.length = s.D.length := by rw [← HS2.out]; rfl
        have HB := hid hcut.out.bel
        have HW := hid hcut.out.wk
        have hwc : w.heap.size ≤ wc.heap.size := by
          have := (HB.out 0 (Nat.zero_le _) (Nat.zero_le _) (Nat.zero_le _) (Nat.zero_le _)).size
          omega
        have HJ : Hid (o = 15 ∨ o = 16 → 0 ≤ a ∧ a ≤ 1000000) := hid (jump_in hr.out)
        have hk1 : k ≤ 1000 := by omega
        clear hps2 hcut t00 t01 t10 t11 x0 x1 y0 y1
        go_wp2_with fail
        refine (next_any k o a _ hk1 HJ.out).mono ?_
        rintro e w3 ⟨v, rfl, hv, hb⟩
        have HW3 := hid (HW.out.below (by omega) hb)
        have HB3 : Hid (∀ B, B ≤ b → B ≤ bD → B ≤ bE → B ≤ w.heap.size → Below B w w3) := hid (fun B p1 p2 p3 p4 => (HB.out B p1 p2 p3 p4).trans (hb.mono (by omega)))
        have hbs := hb.size
        have HDE : Hid (bD < wc.heap.size ∧ bE < wc.heap.size) := hid ⟨HW.out.ltD (by omega), HW.out.ltE (by omega)⟩
        clear i0 i1 HW HB hb
        obtain ⟨ts, hts⟩ : ∃ z, nextN k o a = z := ⟨_, rfl⟩
        rw [hts] at hv
        have HTS := hid hts
        have HTL : Hid (∀ t ∈ ts, t ≤ 1000000000) := hid (by rw [← hts]; exact next_le hk1 HJ.out)
        clear hts HJ
        obtain ⟨A2, rfl, hA2⟩ := hv
        have hnl : (natI ts).length = ts.length := by simp [natI]
        rw [hnl] at hA2 ⊢
        clear hnl
        have HA2 := hid hA2; clear hA2
        obtain ⟨m, hm⟩ : ∃ z, ts.length = z := ⟨_, rfl⟩
        have hm2 : m ≤ 2 := by rw [← hm, ← HTS.out]; exact next_len k o a
        have HM := hid hm
        rw [hm] at HA2 ⊢
        clear hm
        go_wp2_with fail
        go_loopw [96] (fun i wr => ∃ (j : Nat) (sk : CkS), j ≤ m ∧ i = .int .i64 j ∧ Hid (comes s2 (ts.take j) lf em = some sk) ∧ Hid (WkAt wr b bD bE bM A c sk) ∧ Hid (∀ B, B ≤ b → B ≤ bD → B ≤ bE → B ≤ w.heap.size → Below B w wr) ∧ Hid (∀ x o, x ≠ bD → x ≠ bE → wr.cell? ⟨x, o, none⟩ = w3.cell? ⟨x, o, none⟩)) (fun i _ => m - (RowKit.intOf i).toNat)
        case atStart => exact ⟨0, s2, Nat.zero_le _, rfl, hid rfl, HW3, HB3, hid (fun _ _ _ _ => rfl)⟩
        case round =>
          clear HW3 HB3
          obtain ⟨j, sk, hj, rfl, hco, hwk, hbe, hot⟩ := hrel
          by_cases hlt : j < m
          · obtain ⟨g, rfl, hg, hcell⟩ := HA2.out (by omega)
            obtain ⟨t, ht⟩ : ∃ t, ts[j]? = some t := ⟨_, List.getElem?_eq_getElem (by rw [HM.out]; exact hlt)⟩
            have hcj := hcell j hlt
            rw [show (natI ts).getD j 0 = (t : Int) by simp [natI, List.getD_eq_getElem?_getD, ht]] at hcj
            have hcj := (hot.out g j (by have := HDE.out; omega) (by have := HDE.out; omega)).trans hcj
            have HTJ := hid ht
            clear hcell ht
            have htl : t ≤ 1000000000 := HTL.out t (List.mem_of_getElem? HTJ.out)
            have hws : w.heap.size ≤ wr.heap.size := by
              have := (hbe.out 0 (Nat.zero_le _) (Nat.zero_le _) (Nat.zero_le _) (Nat.zero_le _)).size
              omega
            go_wp2_with fail
            refine (come_any b bD bE bM c A sk t lf em wr hwk.out htl).mono ?_
            rintro e w4 ⟨rfl, hw4, hb4, ho4⟩
            have HW4 := hid hw4
            have HB4 : Hid (∀ B, B ≤ b → B ≤ bD → B ≤ bE → B ≤ w.heap.size → Below B w w4) := hid (fun B p1 p2 p3 p4 => (hbe.out B p1 p2 p3 p4).trans (hb4 B p2 p3 (by omega)))
            have HO4 : Hid (∀ x o, x ≠ bD → x ≠ bE → w4.cell? ⟨x, o, none⟩ = w3.cell? ⟨x, o, none⟩) := hid (fun x o p1 p2 => (ho4 x o p1 p2).trans (hot.out x o p1 p2))
            clear hw4 hb4 ho4
            cases hcb : comeB sk t lf em with
            | true =>
              have HCB := hid hcb; clear hcb
              go_wp2_with fail
              go_roundw
              case rel => exact ⟨j + 1, _, by omega, by go_num, hid (by rw [comes_take hco.out HTJ.out, HCB.out]; rfl), HW4, HB4, HO4⟩
              case measure => simp [RowKit.intOf]; omega
            | false =>
              have HCB := hid hcb; clear hcb
              go_wp2_with fail
              go_ret
              exact ⟨false, rfl, by rw [HPT.out, HTS.out, comes_stop hco.out HTJ.out HCB.out]; rfl, HB4.out⟩
          · obtain rfl : j = m := by omega
            go_wp2_with fail
            go_ret
            exact ⟨true, rfl, by rw [HPT.out, HTS.out, ← List.take_of_length_le (i := j) (l := ts) (by rw [HM.out]; exact Nat.le_refl _), hco.out]; exact ⟨rfl, hwk.out⟩, hbe.out⟩

end Go.Proofs.YtfhlpbjdcdagjaaGreatDoor

namespace Go.Proofs.YtfhlpbjdcdagjaaGreatDoor
open Go.RowKit
set_option linter.unusedVariables false
set_option maxRecDepth 100000

theorem intInfo5 : (Tryz.prog.info? 3).map (fun i => (i.zero, i.size, i.bytes)) = some (some (.int .i64 0), 1, 8) := by kernel_rfl

def noughts (n : Nat) : Array Value := (List.replicate n (Value.int .i64 0)).toArray

theorem made_noughts (n : Nat) : madeCells #[.int .i64 0] n = noughts n := by
  unfold madeCells noughts
  apply Array.ext
  · simp
  · intro i h1 h2
    simp [Nat.mod_one]

set_option maxRecDepth 100000 in
theorem make_ints (n : Nat) (hn : n ≤ 1000000) (W : World) :
    (Instr.makeSlice 42 (.int .i64 n) (.int .i64 n)).run Tryz.prog W = .ok (.slice (some ⟨W.heap.size, 0, none⟩) n n) (W.alloc (.cells (noughts n) 3)) := by
  obtain ⟨i0, hi, hz0, hz1, hz2⟩ := info_parts intInfo5
  have := run_make W 42 3 i0 (.int .i64 0) Tryz.underlying42 hi hz0 .i64 .i64 n n (by omega) (Int.le_refl _) (by rw [hz2]; omega) (by omega)
  rw [hz1, Int.toNat_natCast, Nat.mul_one] at this
  rw [this]
  congr 3
  exact made_noughts n

theorem effects_from {W : World} (w : World) (h : Hid (Below W.heap.size W w)) :
    Calls Tryz.prog 130 #[] w fun e w' => ∃ b, e = .returned (.map (some b)) ∧ Hid (EffAt w' b) ∧ Hid (Below W.heap.size W w') ∧ Hid (Below w.heap.size w w') ∧ Hid (w.heap.size ≤ b) :=
  (effects_any w).mono fun e w' ⟨b, he, h1, h2, h3⟩ => ⟨b, he, hid h1, hid (h.out.trans (h2.mono h.out.size)), hid h2, hid h3⟩

/-- While the walk is laid: k depths stand in it. -/
structure StAt (W w : World) (b bE bM base n k : Nat) (v : Value) : Prop where
  c0 : w.cell? ⟨b, 0, none⟩ = some v
  own : w.ownsRow base 3 1 v k (List.replicate k (.int .i64 (-1)))
  c1 : w.cell? ⟨b, 1, none⟩ = some (.int .i64 0)
  c2 : w.cell? ⟨b, 2, none⟩ = some (.int .i64 0)
  c3 : w.cell? ⟨b, 3, none⟩ = some (.bool false)
  c4 : w.cell? ⟨b, 4, none⟩ = some (.bool false)
  c5 : w.cell? ⟨b, 5, none⟩ = some (.map (some bM))
  c6 : w.cell? ⟨b, 6, none⟩ = some (.slice (some ⟨bE, 0, none⟩) n n)
  f : ∀ j, w.frozen? ⟨b, j, none⟩ = false
  cE : ∀ j, j < n → w.cell? ⟨bE, j, none⟩ = some (.int .i64 0)
  fE : ∀ j, j < n → w.frozen? ⟨bE, j, none⟩ = false
  nE : b ≠ bE
  m : EffAt w bM
  mb : bM ≠ b
  mE : bM ≠ bE
  lb : b < base
  lE : bE < base
  lM : bM < base
  lt : base ≤ w.heap.size
  bel : Below W.heap.size W w
  gb : W.heap.size ≤ b
  gE : W.heap.size ≤ bE

/-- The walk's own block is laid. -/
theorem st_new {W V : World} {bE bM n b : Nat} (hb : Hid (Below W.heap.size W V)) (hE : V.heap[bE]? = some (.cells (noughts n) 3)) (hM : EffAt V bM) (hne : bM ≠ bE) (gE : W.heap.size ≤ bE) (hbV : b = V.heap.size) :
    Hid (StAt W (V.alloc (.cells #[.slice none 0 0, .int .i64 0, .int .i64 0, .bool false, .bool false, .map (some bM), .slice (some ⟨bE, 0, none⟩) n n] 176)) b bE bM (V.heap.size + 1) n 0 (.slice none 0 0)) := by
  subst hbV
  have lE : bE < V.heap.size := (Array.getElem?_eq_some_iff.1 hE).1
  have lM := hM.lt
  have hB := (Below.refl V.heap.size V).alloc (Nat.le_refl _) (.cells #[.slice none 0 0, .int .i64 0, .int .i64 0, .bool false, .bool false, .map (some bM), .slice (some ⟨bE, 0, none⟩) n n] 176)
  have hc := (bcell hB).1; have hf := (bcell hB).2
  refine hid ⟨?_, World.ownsRow_nil _ _ _ _, ?_, ?_, ?_, ?_, ?_, ?_, fun j => ?_, fun j hj => ?_, fun j hj => ?_, by omega, hM.alloc _, by omega, hne, by omega, by omega, by omega, by rw [World.size_alloc]; exact Nat.le_refl _, hb.out.alloc hb.out.size _, hb.out.size, gE⟩
  · simp
  · simp
  · simp
  · simp
  · simp
  · simp
  · simp
  · rw [World.frozen?_alloc_new]
  · rw [hc _ _ lE]
    unfold World.cell?
    simp [hE, noughts, hj]
  · rw [hf _ _ lE]
    unfold World.frozen?
    simp [hE]

theorem StAt.low {W wr w3 : World} {b bE bM base n k : Nat} {v : Value} {o : Obj} (h : Hid (StAt W wr b bE bM base n k v)) (hg : (wr.alloc o).grownBy w3 v.ownBlock) : ∀ x, x < base → w3.heap[x]? = wr.heap[x]? := by
  intro x hx
  have hlt := h.out.lt
  rw [hg.block x (by rw [World.size_alloc]; omega) (fun e => by have := (h.out.own.lt x e.symm).1; omega)]
  exact Below.heap_alloc _ _ _ (by omega)

theorem st_step {W wr w3 : World} {b bE bM base n k g cap : Nat} {v : Value} {o : Obj} (h : Hid (StAt W wr b bE bM base n k v)) (hg : (wr.alloc o).grownBy w3 v.ownBlock)
    (hown : w3.ownsRow base 3 1 (.slice (some ⟨g, 0, none⟩) (k + 1) cap) (k + 1) (List.replicate k (.int .i64 (-1)) ++ [.int .i64 (-1)])) (hgb : base ≤ g) :
    Hid (StAt W (w3.setCell ⟨b, 0, none⟩ (.slice (some ⟨g, 0, none⟩) (k + 1) cap)) b bE bM base n (k + 1) (.slice (some ⟨g, 0, none⟩) (k + 1) cap)) := by
  have low := StAt.low h hg
  have hc : ∀ x j, x < base → w3.cell? ⟨x, j, none⟩ = wr.cell? ⟨x, j, none⟩ := fun x j hx => World.cell?_of_block (low x hx)
  have hf : ∀ x j, x < base → w3.frozen? ⟨x, j, none⟩ = wr.frozen? ⟨x, j, none⟩ := fun x j hx => World.frozen?_of_block (low x hx)
  have lb := h.out.lb; have lE := h.out.lE; have lM := h.out.lM
  have o1 : ∀ x j, x < base → (x = b → j ≠ 0) → (w3.setCell ⟨b, 0, none⟩ (.slice (some ⟨g, 0, none⟩) (k + 1) cap)).cell? ⟨x, j, none⟩ = wr.cell? ⟨x, j, none⟩ := fun x j hx hj => by
    rw [World.cell?_setCell_other _ _ _ _ (by intro e; injection e with e1 e2; exact hj e1.symm e2.symm)]
    exact hc x j hx
  have o2 : ∀ x j, x < base → (w3.setCell ⟨b, 0, none⟩ (.slice (some ⟨g, 0, none⟩) (k + 1) cap)).frozen? ⟨x, j, none⟩ = wr.frozen? ⟨x, j, none⟩ := fun x j hx => by
    rw [World.frozen?_setCell]; exact hf x j hx
  refine hid ⟨?_, ?_, (o1 _ _ lb (by omega)).trans h.out.c1, (o1 _ _ lb (by omega)).trans h.out.c2, (o1 _ _ lb (by omega)).trans h.out.c3, (o1 _ _ lb (by omega)).trans h.out.c4, (o1 _ _ lb (by omega)).trans h.out.c5, (o1 _ _ lb (by omega)).trans h.out.c6,
    fun j => (o2 _ _ lb).trans (h.out.f j), fun j hj => (o1 _ _ lE (fun e => absurd e.symm h.out.nE)).trans (h.out.cE j hj), fun j hj => (o2 _ _ lE).trans (h.out.fE j hj), h.out.nE, ?_, h.out.mb, h.out.mE, lb, lE, lM, ?_, ?_, h.out.gb, h.out.gE⟩
  · rw [World.cell?_setCell_same _ _ _ ((hc b 0 lb).trans h.out.c0)]
  · rw [List.replicate_succ']
    exact hown.kept (turned_set (turned_refl w3 (some b)) (.inl rfl) _) (.inr (by simp only [Value.ownBlock]; intro e; injection e with e; omega))
  · exact (h.out.m.keep (low _ lM)).setCell h.out.mb _
  · have := hg.size
    have := h.out.lt
    simp at *
    omega
  · have h1 := h.out.bel.alloc h.out.bel.size o
    have h2 := h1.grown hg h1.size (fun x hx => by
      have := (h.out.own.lt x hx).1
      have := h.out.gb
      omega)
    exact h2.setCell h.out.gb _

theorem st_done {W w : World} {b bE bM base n : Nat} {v : Value} (h : Hid (StAt W w b bE bM base n n v)) : ∃ bD A c, v = .slice A n c ∧ WkAt w b bD bE bM A c ⟨List.replicate n (-1), List.replicate n 0, 0, 0, false, false⟩ ∧ W.heap.size ≤ bD := by
  have hr1 : ∀ j, j < n → (List.replicate n (-1 : Int)).getD j 0 = -1 := fun j hj => by simp [List.getD_eq_getElem?_getD, hj]
  have hr0 : ∀ j, j < n → (List.replicate n (0 : Int)).getD j 0 = 0 := fun j hj => by simp [List.getD_eq_getElem?_getD, hj]
  have c0 := h.out.c0
  have lb := h.out.lb; have lE := h.out.lE; have lM := h.out.lM; have lt := h.out.lt; have gb := h.out.gb
  by_cases hn : 0 < n
  · obtain ⟨g, cap, rfl, hg0, hg1, hc, hm, hcell, hfr⟩ := own_cell h.out.own hn
    refine ⟨g, _, _, rfl, ⟨fun _ => rfl, by simp, by simpa using c0, h.out.c1, h.out.c2, h.out.c3, h.out.c4, h.out.c5, by simpa using h.out.c6, h.out.f, fun j hj => ?_, fun j hj => hfr j, fun j hj => ?_, fun j hj => h.out.fE j (by simpa using hj), by omega, h.out.nE, by omega, h.out.m, h.out.mb, by omega, h.out.mE, by simpa using hc⟩, by omega⟩
    · have hj' : j < n := by simpa using hj
      simp only
      rw [hcell j (by omega), hr1 j hj']
      simp [hj']
    · have hj' : j < n := by simpa using hj
      simp only
      rw [hr0 j hj']
      exact h.out.cE j hj'
  · obtain rfl : n = 0 := by omega
    rcases h.out.own.2 with ⟨rfl, _⟩ | ⟨g, cap, cur, rfl, hb, hg, hc, hm, _⟩
    · refine ⟨w.heap.size, none, 0, rfl, ⟨fun q => absurd q (by simp), by simp, by simpa using c0, h.out.c1, h.out.c2, h.out.c3, h.out.c4, h.out.c5, by simpa using h.out.c6, h.out.f, fun j hj => absurd hj (by simp), fun j hj => absurd hj (by simp), fun j hj => absurd hj (by simp), fun j hj => absurd hj (by simp), by omega, h.out.nE, by omega, h.out.m, h.out.mb, by omega, h.out.mE, by simp⟩, by omega⟩
    · have hg1 : g < w.heap.size := (Array.getElem?_eq_some_iff.1 hg).1
      refine ⟨g, _, _, rfl, ⟨fun q => absurd q (by simp), by simp, by simpa using c0, h.out.c1, h.out.c2, h.out.c3, h.out.c4, h.out.c5, by simpa using h.out.c6, h.out.f, fun j hj => absurd hj (by simp), fun j hj => absurd hj (by simp), fun j hj => absurd hj (by simp), fun j hj => absurd hj (by simp), by omega, h.out.nE, by omega, h.out.m, h.out.mb, by omega, h.out.mE, by simp⟩, by omega⟩

set_option maxRecDepth 100000 in
set_option maxHeartbeats 1500000 in
theorem start_any (n : Nat) (hn : n ≤ 1000) (w : World) :
    Calls Tryz.prog 111 #[.int .i64 n] w fun r w' => ∃ b bD bE bM A c, r = .returned (.pointer (some ⟨b, 0, none⟩)) ∧ WkAt w' b bD bE bM A c (startS n) ∧ Below w.heap.size w w' ∧ w.heap.size ≤ b ∧ w.heap.size ≤ bD ∧ w.heap.size ≤ bE := by
  go_enter Tryz.func111, Tryz.ntmps111
  go_upto_region 1 with fail
  go_cut [3] (fun s3 wx => ∃ b bE bM base, s3 = .pointer (some ⟨b, 0, none⟩) ∧ Hid (StAt w wx b bE bM base n 0 (.slice none 0 0)))
  case first =>
    have hmk := make_ints n (by omega)
    have hb0 : Hid (Below w.heap.size w w.drew) := hid (Below.refl _ w).drew
    have hb1 : Hid (Below w.heap.size w (w.alloc (.cells (noughts n) 3)).drew) := hid ((Below.refl _ w).alloc (Nat.le_refl _) _).drew
    go_region_law (first | (go_simp; go_at_call 130; (with_reducible refine (effects_from (W := w) _ ?_).mono ?_); assumption; rintro e w1 ⟨bM, rfl, hef, hbe, hbw, hle⟩))
    · go_wp2_with fail
      go_meet
      refine ⟨_, _, _, _, rfl, st_new (bE := w1.heap.size) (hid (hbe.out.alloc hbe.out.size _)) (heap_alloc_new _ _) (hef.out.alloc _) ?_ hbe.out.size ?_⟩
      · have := hef.out.lt; omega
      · rw [World.size_alloc]
    · go_wp2_with fail
      go_meet
      have hle := hle.out
      have e1 : (w.alloc (.cells (noughts n) 3)).drew.heap.size = w.heap.size + 1 := World.size_alloc _ _
      rw [e1] at hle
      refine ⟨_, _, _, _, rfl, st_new (bE := w.heap.size) hbe ?_ hef.out (by omega) (Nat.le_refl _) rfl⟩
      rw [hbw.out.block w.heap.size (by rw [e1]; omega)]
      exact heap_drew_new w _
  case rest =>
    obtain ⟨b, bE, bM, base, rfl, hst⟩ := hcut
    obtain ⟨i0, hi, hz0, hz1, hz2⟩ := info_parts intInfo5
    go_wp2_with fail
    go_loopw [10] (fun i wr => ∃ (k : Nat) (v : Value), k ≤ n ∧ i = .int .i64 k ∧ Hid (StAt w wr b bE bM base n k v)) (fun i _ => n - (RowKit.intOf i).toNat)
    case atStart => exact ⟨0, _, Nat.zero_le _, rfl, hst⟩
    case round =>
      clear hst
      obtain ⟨k, v, hk, rfl, hs⟩ := hrel
      by_cases hlt : k < n
      · have c0 := hs.out.c0
        have lb := hs.out.lb; have lt := hs.out.lt
        have f0 := hs.out.f 0
        go_wp2_with (at_builtin; refine wpList_append_own _ rfl _ _ 42 rfl base 3 i0 (.int .i64 0) 1 8 Tryz.underlying42 hi hz0 hz1 hz2 rfl (by decide) v k _ rfl (hs.out.own.alloc _) ⟨wr.heap.size, 0, none⟩ 1 1 [.int .i64 (-1)] rfl rfl (one_new wr _ _) (by intro u hu; simp at hu; rcases hu with rfl; rfl) (by unfold maxLen; omega) (by omega) (by simp; omega) ?_; intro v' w3 hown3 hg3 _; obtain ⟨g, cap, rfl, hg0, hg1, hrest⟩ := own_cell hown3 (by omega); have HS3 := st_step hs hg3 hown3 hg0; have c0 := (World.cell?_of_block (StAt.low hs hg3 b lb)).trans c0; have f0 := (World.frozen?_of_block (StAt.low hs hg3 b lb)).trans f0; clear hown3 hg3 hrest)
        go_roundw
        case rel => exact ⟨k + 1, _, by omega, by go_num, HS3⟩
        case measure => simp [RowKit.intOf]; omega
      · obtain rfl : k = n := by omega
        obtain ⟨bD, A, c, rfl, hwk, hD⟩ := st_done hs
        have HW := hid hwk; clear hwk
        have HB := hid hs.out.bel
        have gb := hs.out.gb; have gE := hs.out.gE
        clear hs
        go_wp2_with fail
        refine (come_any b bD bE bM c A _ 0 0 0 wr HW.out (by omega)).mono ?_
        rintro e w4 ⟨rfl, hw4, hb4, _⟩
        have HW4 := hid hw4
        have HB4 := hid (HB.out.trans (hb4 w.heap.size hD gE HB.out.size))
        clear hw4 hb4
        go_wp2_with fail
        go_ret
        exact ⟨_, _, _, _, _, _, rfl, HW4.out, HB4.out, gb, hD, gE⟩

end Go.Proofs.YtfhlpbjdcdagjaaGreatDoor
