/- Layer 5, check: where a walk begins; Check, Safe, Passes. -/
import Derived.Test.YtfohdoahddommaaDoorChkC
import Derived.Test.YtfohdoahddommaaDoorOwn
import Derived.Deep.RegionLaw
namespace Go.Proofs.YtfohdoahddommaaDoor
open Go.RowKit
set_option linter.unusedVariables false
set_option maxRecDepth 100000

theorem intInfo5 : (Tryd.prog.info? 3).map (fun i => (i.zero, i.size, i.bytes)) = some (some (.int .i64 0), 1, 8) := by kernel_rfl

def noughts (n : Nat) : Array Value := (List.replicate n (Value.int .i64 0)).toArray

theorem made_noughts (n : Nat) : madeCells #[.int .i64 0] n = noughts n := by
  unfold madeCells noughts
  apply Array.ext
  · simp
  · intro i h1 h2
    simp [Nat.mod_one]

set_option maxRecDepth 100000 in
theorem make_ints (n : Nat) (hn : n ≤ 1000000) (W : World) :
    (Instr.makeSlice 65 (.int .i64 n) (.int .i64 n)).run Tryd.prog W = .ok (.slice (some ⟨W.heap.size, 0, none⟩) n n) (W.alloc (.cells (noughts n) 3)) := by
  obtain ⟨i0, hi, hz0, hz1, hz2⟩ := info_parts intInfo5
  have := run_make W 65 3 i0 (.int .i64 0) Tryd.underlying65 hi hz0 .i64 .i64 n n (by omega) (Int.le_refl _) (by rw [hz2]; omega) (by omega)
  rw [hz1, Int.toNat_natCast, Nat.mul_one] at this
  rw [this]
  congr 3
  exact made_noughts n

theorem effects_from {W : World} (w : World) (h : Hid (Below W.heap.size W w)) :
    Calls Tryd.prog 67 #[] w fun e w' => ∃ b, e = .returned (.map (some b)) ∧ Hid (EffAt w' b) ∧ Hid (Below W.heap.size W w') ∧ Hid (Below w.heap.size w w') ∧ Hid (w.heap.size ≤ b) :=
  (effects_any w).mono fun e w' ⟨b, he, h1, h2, h3⟩ => ⟨b, he, hid h1, hid (h.out.trans (h2.mono h.out.size)), hid h2, hid h3⟩

/-- While the walk is laid: k depths stand in it. -/
structure StAt (W w : World) (b bE bM base n k : Nat) (v : Value) : Prop where
  c0 : w.cell? ⟨b, 0, none⟩ = some v
  own : w.ownsRow base 3 1 v k (List.replicate k (.int .i64 (-1)))
  c1 : w.cell? ⟨b, 1, none⟩ = some (.int .i64 0)
  c2 : w.cell? ⟨b, 2, none⟩ = some (.int .i64 0)
  c3 : w.cell? ⟨b, 3, none⟩ = some (.bool false)
  c4 : w.cell? ⟨b, 4, none⟩ = some (.bool false)
  c5 : w.cell? ⟨b, 5, none⟩ = some (.map (some bM))
  c6 : w.cell? ⟨b, 6, none⟩ = some (.slice (some ⟨bE, 0, none⟩) n n)
  f : ∀ j, w.frozen? ⟨b, j, none⟩ = false
  cE : ∀ j, j < n → w.cell? ⟨bE, j, none⟩ = some (.int .i64 0)
  fE : ∀ j, j < n → w.frozen? ⟨bE, j, none⟩ = false
  nE : b ≠ bE
  m : EffAt w bM
  mb : bM ≠ b
  mE : bM ≠ bE
  lb : b < base
  lE : bE < base
  lM : bM < base
  lt : base ≤ w.heap.size
  bel : Below W.heap.size W w
  gb : W.heap.size ≤ b
  gE : W.heap.size ≤ bE

/-- The walk's own block is laid. -/
theorem st_new {W V : World} {bE bM n b : Nat} (hb : Hid (Below W.heap.size W V)) (hE : V.heap[bE]? = some (.cells (noughts n) 3)) (hM : EffAt V bM) (hne : bM ≠ bE) (gE : W.heap.size ≤ bE) (hbV : b = V.heap.size) :
    Hid (StAt W (V.alloc (.cells #[.slice none 0 0, .int .i64 0, .int .i64 0, .bool false, .bool false, .map (some bM), .slice (some ⟨bE, 0, none⟩) n n] 90)) b bE bM (V.heap.size + 1) n 0 (.slice none 0 0)) := by
  subst hbV
  have lE : bE < V.heap.size := (Array.getElem?_eq_some_iff.1 hE).1
  have lM := hM.lt
  have hB := (Below.refl V.heap.size V).alloc (Nat.le_refl _) (.cells #[.slice none 0 0, .int .i64 0, .int .i64 0, .bool false, .bool false, .map (some bM), .slice (some ⟨bE, 0, none⟩) n n] 90)
  have hc := (bcell hB).1; have hf := (bcell hB).2
  refine hid ⟨?_, World.ownsRow_nil _ _ _ _, ?_, ?_, ?_, ?_, ?_, ?_, fun j => ?_, fun j hj => ?_, fun j hj => ?_, by omega, hM.alloc _, by omega, hne, by omega, by omega, by omega, by rw [World.size_alloc]; exact Nat.le_refl _, hb.out.alloc hb.out.size _, hb.out.size, gE⟩
  · simp
  · simp
  · simp
  · simp
  · simp
  · simp
  · simp
  · rw [World.frozen?_alloc_new]
  · rw [hc _ _ lE]
    unfold World.cell?
    simp [hE, noughts, hj]
  · rw [hf _ _ lE]
    unfold World.frozen?
    simp [hE]

theorem StAt.low {W wr w3 : World} {b bE bM base n k : Nat} {v : Value} {o : Obj} (h : Hid (StAt W wr b bE bM base n k v)) (hg : (wr.alloc o).grownBy w3 v.ownBlock) : ∀ x, x < base → w3.heap[x]? = wr.heap[x]? := by
  intro x hx
  have hlt := h.out.lt
  rw [hg.block x (by rw [World.size_alloc]; omega) (fun e => by have := (h.out.own.lt x e.symm).1; omega)]
  exact Below.heap_alloc _ _ _ (by omega)

theorem st_step {W wr w3 : World} {b bE bM base n k g cap : Nat} {v : Value} {o : Obj} (h : Hid (StAt W wr b bE bM base n k v)) (hg : (wr.alloc o).grownBy w3 v.ownBlock)
    (hown : w3.ownsRow base 3 1 (.slice (some ⟨g, 0, none⟩) (k + 1) cap) (k + 1) (List.replicate k (.int .i64 (-1)) ++ [.int .i64 (-1)])) (hgb : base ≤ g) :
    Hid (StAt W (w3.setCell ⟨b, 0, none⟩ (.slice (some ⟨g, 0, none⟩) (k + 1) cap)) b bE bM base n (k + 1) (.slice (some ⟨g, 0, none⟩) (k + 1) cap)) := by
  have low := StAt.low h hg
  have hc : ∀ x j, x < base → w3.cell? ⟨x, j, none⟩ = wr.cell? ⟨x, j, none⟩ := fun x j hx => World.cell?_of_block (low x hx)
  have hf : ∀ x j, x < base → w3.frozen? ⟨x, j, none⟩ = wr.frozen? ⟨x, j, none⟩ := fun x j hx => World.frozen?_of_block (low x hx)
  have lb := h.out.lb; have lE := h.out.lE; have lM := h.out.lM
  have o1 : ∀ x j, x < base → (x = b → j ≠ 0) → (w3.setCell ⟨b, 0, none⟩ (.slice (some ⟨g, 0, none⟩) (k + 1) cap)).cell? ⟨x, j, none⟩ = wr.cell? ⟨x, j, none⟩ := fun x j hx hj => by
    rw [World.cell?_setCell_other _ _ _ _ (by intro e; injection e with e1 e2; exact hj e1.symm e2.symm)]
    exact hc x j hx
  have o2 : ∀ x j, x < base → (w3.setCell ⟨b, 0, none⟩ (.slice (some ⟨g, 0, none⟩) (k + 1) cap)).frozen? ⟨x, j, none⟩ = wr.frozen? ⟨x, j, none⟩ := fun x j hx => by
    rw [World.frozen?_setCell]; exact hf x j hx
  refine hid ⟨?_, ?_, (o1 _ _ lb (by omega)).trans h.out.c1, (o1 _ _ lb (by omega)).trans h.out.c2, (o1 _ _ lb (by omega)).trans h.out.c3, (o1 _ _ lb (by omega)).trans h.out.c4, (o1 _ _ lb (by omega)).trans h.out.c5, (o1 _ _ lb (by omega)).trans h.out.c6,
    fun j => (o2 _ _ lb).trans (h.out.f j), fun j hj => (o1 _ _ lE (fun e => absurd e.symm h.out.nE)).trans (h.out.cE j hj), fun j hj => (o2 _ _ lE).trans (h.out.fE j hj), h.out.nE, ?_, h.out.mb, h.out.mE, lb, lE, lM, ?_, ?_, h.out.gb, h.out.gE⟩
  · rw [World.cell?_setCell_same _ _ _ ((hc b 0 lb).trans h.out.c0)]
  · rw [List.replicate_succ']
    exact hown.kept (turned_set (turned_refl w3 (some b)) (.inl rfl) _) (.inr (by simp only [Value.ownBlock]; intro e; injection e with e; omega))
  · exact (h.out.m.keep (low _ lM)).setCell h.out.mb _
  · have := hg.size
    have := h.out.lt
    simp at *
    omega
  · have h1 := h.out.bel.alloc h.out.bel.size o
    have h2 := h1.grown hg h1.size (fun x hx => by
      have := (h.out.own.lt x hx).1
      have := h.out.gb
      omega)
    exact h2.setCell h.out.gb _

theorem st_done {W w : World} {b bE bM base n : Nat} {v : Value} (h : Hid (StAt W w b bE bM base n n v)) : ∃ bD A c, v = .slice A n c ∧ WkAt w b bD bE bM A c ⟨List.replicate n (-1), List.replicate n 0, 0, 0, false, false⟩ ∧ W.heap.size ≤ bD := by
  have hr1 : ∀ j, j < n → (List.replicate n (-1 : Int)).getD j 0 = -1 := fun j hj => by simp [List.getD_eq_getElem?_getD, hj]
  have hr0 : ∀ j, j < n → (List.replicate n (0 : Int)).getD j 0 = 0 := fun j hj => by simp [List.getD_eq_getElem?_getD, hj]
  have c0 := h.out.c0
  have lb := h.out.lb; have lE := h.out.lE; have lM := h.out.lM; have lt := h.out.lt; have gb := h.out.gb
  by_cases hn : 0 < n
  · obtain ⟨g, cap, rfl, hg0, hg1, hc, hm, hcell, hfr⟩ := own_cell h.out.own hn
    refine ⟨g, _, _, rfl, ⟨fun _ => rfl, by simp, by simpa using c0, h.out.c1, h.out.c2, h.out.c3, h.out.c4, h.out.c5, by simpa using h.out.c6, h.out.f, fun j hj => ?_, fun j hj => hfr j, fun j hj => ?_, fun j hj => h.out.fE j (by simpa using hj), by omega, h.out.nE, by omega, h.out.m, h.out.mb, by omega, h.out.mE, by simpa using hc⟩, by omega⟩
    · have hj' : j < n := by simpa using hj
      simp only
      rw [hcell j (by omega), hr1 j hj']
      simp [hj']
    · have hj' : j < n := by simpa using hj
      simp only
      rw [hr0 j hj']
      exact h.out.cE j hj'
  · obtain rfl : n = 0 := by omega
    rcases h.out.own.2 with ⟨rfl, _⟩ | ⟨g, cap, cur, rfl, hb, hg, hc, hm, _⟩
    · refine ⟨w.heap.size, none, 0, rfl, ⟨fun q => absurd q (by simp), by simp, by simpa using c0, h.out.c1, h.out.c2, h.out.c3, h.out.c4, h.out.c5, by simpa using h.out.c6, h.out.f, fun j hj => absurd hj (by simp), fun j hj => absurd hj (by simp), fun j hj => absurd hj (by simp), fun j hj => absurd hj (by simp), by omega, h.out.nE, by omega, h.out.m, h.out.mb, by omega, h.out.mE, by simp⟩, by omega⟩
    · have hg1 : g < w.heap.size := (Array.getElem?_eq_some_iff.1 hg).1
      refine ⟨g, _, _, rfl, ⟨fun q => absurd q (by simp), by simp, by simpa using c0, h.out.c1, h.out.c2, h.out.c3, h.out.c4, h.out.c5, by simpa using h.out.c6, h.out.f, fun j hj => absurd hj (by simp), fun j hj => absurd hj (by simp), fun j hj => absurd hj (by simp), fun j hj => absurd hj (by simp), by omega, h.out.nE, by omega, h.out.m, h.out.mb, by omega, h.out.mE, by simp⟩, by omega⟩

set_option maxRecDepth 100000 in
set_option maxHeartbeats 1500000 in
theorem start_any (n : Nat) (hn : n ≤ 1000) (w : World) :
    Calls Tryd.prog 46 #[.int .i64 n] w fun r w' => ∃ b bD bE bM A c, r = .returned (.pointer (some ⟨b, 0, none⟩)) ∧ WkAt w' b bD bE bM A c (startS n) ∧ Below w.heap.size w w' ∧ w.heap.size ≤ b ∧ w.heap.size ≤ bD ∧ w.heap.size ≤ bE := by
  go_enter Tryd.func46, Tryd.ntmps46
  go_upto_region 1 with fail
  go_cut [3] (fun s3 wx => ∃ b bE bM base, s3 = .pointer (some ⟨b, 0, none⟩) ∧ Hid (StAt w wx b bE bM base n 0 (.slice none 0 0)))
  case first =>
    have hmk := make_ints n (by omega)
    have hb0 : Hid (Below w.heap.size w w.drew) := hid (Below.refl _ w).drew
    have hb1 : Hid (Below w.heap.size w (w.alloc (.cells (noughts n) 3)).drew) := hid ((Below.refl _ w).alloc (Nat.le_refl _) _).drew
    go_region_law (first | (go_simp; go_at_call 67; (with_reducible refine (effects_from (W := w) _ ?_).mono ?_); assumption; rintro e w1 ⟨bM, rfl, hef, hbe, hbw, hle⟩))
    · go_wp2_with fail
      go_meet
      refine ⟨_, _, _, _, rfl, st_new (bE := w1.heap.size) (hid (hbe.out.alloc hbe.out.size _)) (heap_alloc_new _ _) (hef.out.alloc _) ?_ hbe.out.size ?_⟩
      · have := hef.out.lt; omega
      · rw [World.size_alloc]
    · go_wp2_with fail
      go_meet
      have hle := hle.out
      have e1 : (w.alloc (.cells (noughts n) 3)).drew.heap.size = w.heap.size + 1 := World.size_alloc _ _
      rw [e1] at hle
      refine ⟨_, _, _, _, rfl, st_new (bE := w.heap.size) hbe ?_ hef.out (by omega) (Nat.le_refl _) rfl⟩
      rw [hbw.out.block w.heap.size (by rw [e1]; omega)]
      exact heap_drew_new w _
  case rest =>
    obtain ⟨b, bE, bM, base, rfl, hst⟩ := hcut
    obtain ⟨i0, hi, hz0, hz1, hz2⟩ := info_parts intInfo5
    go_wp2_with fail
    go_loopw [10] (fun i wr => ∃ (k : Nat) (v : Value), k ≤ n ∧ i = .int .i64 k ∧ Hid (StAt w wr b bE bM base n k v)) (fun i _ => n - (RowKit.intOf i).toNat)
    case atStart => exact ⟨0, _, Nat.zero_le _, rfl, hst⟩
    case round =>
      clear hst
      obtain ⟨k, v, hk, rfl, hs⟩ := hrel
      by_cases hlt : k < n
      · have c0 := hs.out.c0
        have lb := hs.out.lb; have lt := hs.out.lt
        have f0 := hs.out.f 0
        go_wp2_with (at_builtin; refine wpList_append_own _ rfl _ _ 65 rfl base 3 i0 (.int .i64 0) 1 8 Tryd.underlying65 hi hz0 hz1 hz2 rfl (by decide) v k _ rfl (hs.out.own.alloc _) ⟨wr.heap.size, 0, none⟩ 1 1 [.int .i64 (-1)] rfl rfl (one_new wr _ _) (by intro u hu; simp at hu; rcases hu with rfl; rfl) (by unfold maxLen; omega) (by omega) (by simp; omega) ?_; intro v' w3 hown3 hg3 _; obtain ⟨g, cap, rfl, hg0, hg1, hrest⟩ := own_cell hown3 (by omega); have HS3 := st_step hs hg3 hown3 hg0; have c0 := (World.cell?_of_block (StAt.low hs hg3 b lb)).trans c0; have f0 := (World.frozen?_of_block (StAt.low hs hg3 b lb)).trans f0; clear hown3 hg3 hrest)
        go_roundw
        case rel => exact ⟨k + 1, _, by omega, by go_num, HS3⟩
        case measure => simp [RowKit.intOf]; omega
      · obtain rfl : k = n := by omega
        obtain ⟨bD, A, c, rfl, hwk, hD⟩ := st_done hs
        have HW := hid hwk; clear hwk
        have HB := hid hs.out.bel
        have gb := hs.out.gb; have gE := hs.out.gE
        clear hs
        go_wp2_with fail
        refine (come_any b bD bE bM c A _ 0 0 0 wr HW.out (by omega)).mono ?_
        rintro e w4 ⟨rfl, hw4, hb4, _⟩
        have HW4 := hid hw4
        have HB4 := hid (HB.out.trans (hb4 w.heap.size hD gE HB.out.size))
        clear hw4 hb4
        go_wp2_with fail
        go_ret
        exact ⟨_, _, _, _, _, _, rfl, HW4.out, HB4.out, gb, hD, gE⟩

end Go.Proofs.YtfohdoahddommaaDoor
