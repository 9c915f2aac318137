/- Layer 3, gauss: the document's answers that reckon: a contract for each function. -/
import Derived.Test.YtfhlpbjdcdagjaaGreatDoorHad
import Derived.Deep.QuietTactic
import Derived.BigQuiet
import Derived.StillTailTactics
import Derived.Test.YtfhlpbjdcdagjaaGreatDoorHaa
import Derived.Test.YtfhlpbjdcdagjaaGreatDoorShelf
import Derived.Lib.AtoiErrMem
import Derived.Test.YtfhlpbjdcdagjaaGreatDoorHai
import Derived.Test.YtfhlpbjdcdagjaaGreatDoorHag
import Derived.Deep.RegionHeld3
namespace Go.Proofs.YtfhlpbjdcdagjaaGreatDoor
open Go.RowKit
set_option linter.unusedVariables false
set_option maxRecDepth 100000

set_option maxHeartbeats 400000 in
theorem refinto_any (n : Int) (w : World) :
    Calls Tryz.prog 67 #[.int .i64 n] w fun e w' => e = .returned (.int .i64 (into n)) ∧ w = w' := by
  obtain ⟨r, hr⟩ : ∃ r, n.tmod 1048576 = r := ⟨_, rfl⟩
  have hb : -1048576 < r ∧ r < 1048576 := by
    have h1 := Int.tmod_lt_of_pos n (b := 1048576) (by decide)
    have h2 := Int.lt_tmod_of_pos n (b := 1048576) (by decide)
    omega
  have hm : r % 1048576 = n % 1048576 := by
    rw [← hr]
    have := Int.mul_tdiv_add_tmod n 1048576
    omega
  obtain ⟨hb1, hb2⟩ := hb
  have H1 : Hid (r < -524288 → into n = r + 1048576) := hid (fun h => by rw [into_def]; omega)
  have H2 : Hid (-524288 ≤ r → r < 524288 → into n = r) := hid (fun h h' => by rw [into_def]; omega)
  have H3 : Hid (524288 ≤ r → into n = r - 1048576) := hid (fun h => by rw [into_def]; omega)
  clear hm
  by_cases c1 : r < -524288
  · have c2 : ¬ (524288 ≤ r + 1048576) := by omega
    go_enter Tryz.func67, Tryz.ntmps67
    go_wp2
    go_ret
    exact ⟨ret_int (H1.out c1).symm, rfl⟩
  · by_cases c2 : 524288 ≤ r
    · go_enter Tryz.func67, Tryz.ntmps67
      go_wp2
      go_ret
      exact ⟨ret_int (H3.out c2).symm, rfl⟩
    · go_enter Tryz.func67, Tryz.ntmps67
      go_wp2
      go_ret
      exact ⟨ret_int (H2.out (by omega) (by omega)).symm, rfl⟩

theorem refinto_quiet (n : Int) (w : World) :
    Calls Tryz.prog 67 #[.int .i64 n] w fun e w' => e = .returned (.int .i64 (into n)) ∧ w' = w :=
  (refinto_any n w).mono fun _ _ ⟨he, hw⟩ => ⟨he, hw.symm⟩

set_option maxHeartbeats 400000 in
theorem refof_val (m n : Int) (w : World) :
    Calls Tryz.prog 45 #[.int .i64 m, .int .i64 n] w fun e w' => e = .returned (val (into m) (into n)) ∧ Below w.heap.size w w' := by
  go_enter Tryz.func45, Tryz.ntmps45
  go_wp2_with fail
  refine (refinto_any m _).mono ?_
  rintro e w1 ⟨rfl, rfl⟩
  go_wp2_with fail
  refine (refinto_any n _).mono ?_
  rintro e w1 ⟨rfl, rfl⟩
  go_wp2
  refine bodyPost_ret (v := val (into m) (into n)) (by simp [results, Tryz.results45, go_sem]) rfl ⟨rfl, ?_⟩
  exact (Below.refl _ w).alloc (Nat.le_refl _) _

theorem refof_from {W : World} (m n : Int) (w : World) (hb : Hid (Below W.heap.size W w)) :
    Calls Tryz.prog 45 #[.int .i64 m, .int .i64 n] w fun e w' => e = .returned (val (into m) (into n)) ∧ Hid (Below W.heap.size W w') :=
  (refof_val m n w).mono fun e w' ⟨he, h⟩ => ⟨he, hid (hb.out.trans (h.mono hb.out.size))⟩

set_option maxHeartbeats 1000000 in
theorem refadd_any (a b c d : Int) (w : World) :
    Calls Tryz.prog 49 #[val a b, val c d] w fun e w' => e = .returned (val (into (into a + into c)) (into (into b + into d))) ∧ Below w.heap.size w w' := by
  have := into_ge a; have := into_le a; have := into_ge b; have := into_le b
  have := into_ge c; have := into_le c; have := into_ge d; have := into_le d
  go_enter Tryz.func49, Tryz.ntmps49
  go_wp2_with fail
  obtain ⟨W, hW, ⟨k1, k2, k3, k4, k5, k6⟩, ⟨k7, k8⟩, ⟨l0, l1, l2⟩, h0, HW⟩ := cells3 w (.int .i64 a) (.int .i64 b) (.int .i64 c) (.int .i64 d) (.int .i64 0) (.int .i64 0) 31
  rw [hW]; clear hW
  have hw1 : IntKind.i64.wrap (into a + into c) = into a + into c := by rw [IntKind.wrap_i64]; omega
  have hw2 : IntKind.i64.wrap (into b + into d) = into b + into d := by rw [IntKind.wrap_i64]; omega
  go_still_tail 14, (by kernel_rfl)
  still_call (refinto_quiet _ _)
  repeat still_step
  still_call (refinto_quiet _ _)
  repeat still_step
  still_call (refinto_quiet _ _)
  repeat still_step
  still_call (refinto_quiet _ _)
  repeat still_step
  refine wpStill_nil ?_
  change wpList _ _ _ _ _ W.drew
  go_wp2_with fail
  refine (refof_from (W := W) _ _ _ h0).mono ?_
  rintro e w' ⟨rfl, hb⟩
  obtain ⟨hc, hf⟩ := bcell hb.out
  go_wp2
  refine bodyPost_ret (v := val (into (into a + into c)) (into (into b + into d))) (by simp [results, Tryz.results49, go_sem, hc, k5, k6, l2]) rfl ⟨rfl, ?_⟩
  exact ((HW.out.trans (hb.out.mono HW.out.size)).setCell (by simp only; omega) _).setCell (by simp only; omega) _

set_option maxHeartbeats 1000000 in
theorem refsub_any (a b c d : Int) (w : World) :
    Calls Tryz.prog 50 #[val a b, val c d] w fun e w' => e = .returned (val (into (into a - into c)) (into (into b - into d))) ∧ Below w.heap.size w w' := by
  have := into_ge a; have := into_le a; have := into_ge b; have := into_le b
  have := into_ge c; have := into_le c; have := into_ge d; have := into_le d
  go_enter Tryz.func50, Tryz.ntmps50
  go_wp2_with fail
  obtain ⟨W, hW, ⟨k1, k2, k3, k4, k5, k6⟩, ⟨k7, k8⟩, ⟨l0, l1, l2⟩, h0, HW⟩ := cells3 w (.int .i64 a) (.int .i64 b) (.int .i64 c) (.int .i64 d) (.int .i64 0) (.int .i64 0) 31
  rw [hW]; clear hW
  have hw1 : IntKind.i64.wrap (into a - into c) = into a - into c := by rw [IntKind.wrap_i64]; omega
  have hw2 : IntKind.i64.wrap (into b - into d) = into b - into d := by rw [IntKind.wrap_i64]; omega
  go_still_tail 14, (by kernel_rfl)
  still_call (refinto_quiet _ _)
  repeat still_step
  still_call (refinto_quiet _ _)
  repeat still_step
  still_call (refinto_quiet _ _)
  repeat still_step
  still_call (refinto_quiet _ _)
  repeat still_step
  refine wpStill_nil ?_
  change wpList _ _ _ _ _ W.drew
  go_wp2_with fail
  refine (refof_from (W := W) _ _ _ h0).mono ?_
  rintro e w' ⟨rfl, hb⟩
  obtain ⟨hc, hf⟩ := bcell hb.out
  go_wp2
  refine bodyPost_ret (v := val (into (into a - into c)) (into (into b - into d))) (by simp [results, Tryz.results50, go_sem, hc, k5, k6, l2]) rfl ⟨rfl, ?_⟩
  exact ((HW.out.trans (hb.out.mono HW.out.size)).setCell (by simp only; omega) _).setCell (by simp only; omega) _

set_option maxHeartbeats 2000000 in
theorem refmul_any (a b c d : Int) (w : World) :
    Calls Tryz.prog 51 #[val a b, val c d] w fun e w' => e = .returned (val (into (into a * into c - into b * into d)) (into (into a * into d + into b * into c))) ∧ Below w.heap.size w w' := by
  go_enter Tryz.func51, Tryz.ntmps51
  go_wp2_with fail
  obtain ⟨W, hW, ⟨k1, k2, k3, k4, k5, k6⟩, ⟨k7, k8⟩, ⟨l0, l1, l2⟩, h0, HW⟩ := cells3 w (.int .i64 a) (.int .i64 b) (.int .i64 c) (.int .i64 d) (.int .i64 0) (.int .i64 0) 31
  rw [hW]; clear hW
  go_quiet ((go_at_call 67; exact Calls.quiet_of_same (refinto_quiet _ _)))
  have b1 := abs_mul_le (into_abs a) (into_abs c)
  have b2 := abs_mul_le (into_abs b) (into_abs d)
  have b3 := abs_mul_le (into_abs a) (into_abs d)
  have b4 := abs_mul_le (into_abs b) (into_abs c)
  generalize hp : into a = p at b1 b3 ⊢
  generalize hq : into b = q at b2 b4 ⊢
  generalize hr : into c = r at b1 b4 ⊢
  generalize hs : into d = s at b2 b3 ⊢
  have HPP := hid hp; have HQQ := hid hq; have HRR := hid hr; have HSS := hid hs; clear hp hq hr hs
  have HB1 := hid b1; have HB2 := hid b2; have HB3 := hid b3; have HB4 := hid b4
  have w1 : wrap64 (p * r) = p * r := by unfold wrap64; omega
  have w2 : wrap64 (q * s) = q * s := by unfold wrap64; omega
  have w3 : wrap64 (p * s) = p * s := by unfold wrap64; omega
  have w4 : wrap64 (q * r) = q * r := by unfold wrap64; omega
  have w5 : wrap64 (p * r - q * s) = p * r - q * s := by unfold wrap64; omega
  have w6 : wrap64 (p * s + q * r) = p * s + q * r := by unfold wrap64; omega
  clear b1 b2 b3 b4
  go_wp2_with fail
  refine (refof_from (W := W) _ _ _ (hid (below_drewN (Below.refl _ W) _))).mono ?_
  rintro e w' ⟨rfl, hb⟩
  obtain ⟨hc, hf⟩ := bcell hb.out
  go_wp2
  refine bodyPost_ret (v := val (into (p * r - q * s)) (into (p * s + q * r))) (by simp [results, Tryz.results51, go_sem, hc, k5, k6, l2]) rfl ⟨by rw [HPP.out, HQQ.out, HRR.out, HSS.out], ?_⟩
  exact ((HW.out.trans (hb.out.mono HW.out.size)).setCell (by simp only; omega) _).setCell (by simp only; omega) _

end Go.Proofs.YtfhlpbjdcdagjaaGreatDoor

namespace Go.Proofs.YtfhlpbjdcdagjaaGreatDoor
open Go.RowKit Go.Lib
set_option linter.unusedVariables false
set_option maxRecDepth 100000

theorem size_mk' (l : List UInt8) : (⟨l.toArray⟩ : ByteArray).size = l.length := by show l.toArray.size = _; simp

/-- The table of powers holds what its text lays. -/
def Tab (w : World) : Prop := Lib.TabIs Tryz.prog w "internal/strconv.uint64pow10" .u64 Lib.pow10Tab

theorem gPow : Tryz.prog.globalNamed "internal/strconv.uint64pow10" = some 4 := by kernel_rfl

theorem var_stays {w w' : World} {n : String} {g : Nat} {cs : Array Value} (h : w.var? Tryz.prog n = some cs) (hg : Tryz.prog.globalNamed n = some g) (hb : Below w.heap.size w w') : w'.var? Tryz.prog n = some cs := by
  unfold World.var? at h ⊢
  rw [hg] at h ⊢
  simp only [Option.bind_some] at h ⊢
  have hlt : g < w.heap.size := by
    rcases Nat.lt_or_ge g w.heap.size with h1 | h1
    · exact h1
    · rw [Array.getElem?_eq_none h1] at h; simp at h
  rw [hb.block g hlt]
  exact h

theorem Tab.below {w w' : World} (h : Tab w) (hb : Below w.heap.size w w') : Tab w' := var_stays h gPow hb

theorem below_grow (w : World) (k : Nat) (os : Array Obj) : Below w.heap.size w (Sort.grow (w.drewN k) os) := by
  refine ⟨rfl, rfl, rfl, ?_, fun i hi => ?_⟩
  · show w.heap.size ≤ (w.heap ++ os).size
    simp
  · show (w.heap ++ os)[i]? = w.heap[i]?
    rw [Array.getElem?_append_left hi]

theorem itoa_from {W : World} (n : Int) (hn : Small n) (S : ByteArray) (hS : Hid ((⟨(Lib.itoa n).toArray⟩ : ByteArray) = S)) (ht : Hid (Tab W)) (w : World) (hb : Hid (Below W.heap.size W w)) :
    Calls Tryz.prog 83 #[.int .i64 n] w fun e w' => e = .returned (.string S) ∧ Hid (Below W.heap.size W w') :=
  (Tryz.strconv_Itoa n (by have := hn.1; omega) (by have := hn.2; omega) w (ht.out.below hb.out)).mono fun e w' ⟨he, k, os, hw⟩ => ⟨by rw [he, hS.out], hid (hb.out.trans (by rw [hw]; exact (below_grow w k os).mono hb.out.size))⟩

theorem gSyn : Tryz.prog.globalNamed "strconv.ErrSyntax" = some 2 := by kernel_rfl

theorem gRan : Tryz.prog.globalNamed "strconv.ErrRange" = some 3 := by kernel_rfl

/-- What the library's package-level variables hold that number's digits hang on. -/
structure NumEnv (w : World) : Prop where
  tab : Tab w
  syn : ∃ tp p, w.var? Tryz.prog "strconv.ErrSyntax" = some #[.iface tp p]
  ran : ∃ tp p, w.var? Tryz.prog "strconv.ErrRange" = some #[.iface tp p]

theorem NumEnv.below {w w' : World} (h : NumEnv w) (hb : Below w.heap.size w w') : NumEnv w' := by
  refine ⟨h.tab.below hb, ?_, ?_⟩
  · obtain ⟨tp, p, e⟩ := h.syn
    exact ⟨tp, p, var_stays e gSyn hb⟩
  · obtain ⟨tp, p, e⟩ := h.ran
    exact ⟨tp, p, var_stays e gRan hb⟩

/-- What Atoi answers. -/
inductive NumIs (l : List UInt8) : Value → Prop
  | good (n : Int) : atoiAll l = .ok n → NumIs l (.tuple #[.int .i64 n, .nilIface])
  | bad (m : Int) (tp : TypeId) (p : Value) : (∀ n, atoiAll l ≠ .ok n) → NumIs l (.tuple #[.int .i64 m, .iface tp p])

theorem atoi_num (U : ByteArray) (hs : U.size ≤ 1000) (w : World) (he : NumEnv w) :
    Calls Tryz.prog 43 #[.string U] w fun e w' => (∃ v, e = .returned v ∧ NumIs U.data.toList v) ∧ Below w.heap.size w w' := by
  cases h : atoiAll U.data.toList with
  | ok n =>
    refine (Tryz.strconv_Atoi_ok U (by omega) n h w).mono ?_
    rintro e w' ⟨rfl, hw⟩
    refine ⟨⟨_, rfl, .good n h⟩, ?_⟩
    rcases hw with rfl | ⟨t, rfl⟩
    · exact Below.refl _ _
    · exact Lib.bytesWorld_below _ _ _
  | range =>
    obtain ⟨tp, p, hv⟩ := he.ran
    refine (Tryz.strconv_Atoi_range_var U (by omega) h tp p w hv).mono ?_
    rintro e w' ⟨N, rfl, _, _, hb⟩
    exact ⟨⟨_, rfl, .bad _ _ _ (fun n => by rw [h]; exact fun e => by cases e)⟩, hb⟩
  | _ =>
    obtain ⟨tp, p, hv⟩ := he.syn
    refine (Tryz.strconv_Atoi_syntax_var U (by omega) h tp p w hv).mono ?_
    rintro e w' ⟨N, rfl, _, _, hb⟩
    exact ⟨⟨_, rfl, .bad _ _ _ (fun n => by rw [h]; exact fun e => by cases e)⟩, hb⟩

theorem NumIs.ways {l : List UInt8} {n : Int} {e : Value} (h : NumIs l (.tuple #[.int .i64 n, e])) : (e = .nilIface ∧ atoiAll l = .ok n) ∨ ∃ tp p, e = .iface tp p ∧ ∀ n, atoiAll l ≠ .ok n := by
  cases h with
  | good _ h => exact .inl ⟨rfl, h⟩
  | bad _ tp p h => exact .inr ⟨tp, p, rfl, h⟩

end Go.Proofs.YtfhlpbjdcdagjaaGreatDoor

namespace Go.Proofs.YtfhlpbjdcdagjaaGreatDoor
open Go.RowKit Go.Lib
set_option linter.unusedVariables false
set_option maxRecDepth 100000

def nameS (o : Int) : ByteArray := ⟨(nameL o).toArray⟩

def nameCells : Array Value := (opNames.map fun n => Value.string ⟨n.toArray⟩).toArray

theorem nameCells_size' : nameCells.size = 18 := rfl

theorem nameCells_lit : nameCells = #[.string ⟨#[72, 65, 76, 84]⟩, .string ⟨#[80, 85, 83, 72]⟩, .string ⟨#[80, 85, 83, 72, 73]⟩, .string ⟨#[73, 78]⟩, .string ⟨#[76, 79, 65, 68]⟩, .string ⟨#[83, 84, 79, 82, 69]⟩, .string ⟨#[65, 68, 68]⟩, .string ⟨#[83, 85, 66]⟩, .string ⟨#[77, 85, 76]⟩, .string ⟨#[67, 79, 78, 74]⟩, .string ⟨#[84, 85, 82, 78]⟩, .string ⟨#[68, 85, 80]⟩, .string ⟨#[83, 87, 65, 80]⟩, .string ⟨#[68, 82, 79, 80]⟩, .string ⟨#[69, 77, 73, 84]⟩, .string ⟨#[74, 90]⟩, .string ⟨#[74, 77, 80]⟩, .string ⟨#[76, 84]⟩] := rfl

theorem nameCells_get (k : Nat) (h : k < 18) : nameCells[k]? = some (.string (nameS k)) := by
  have : k = 0 ∨ k = 1 ∨ k = 2 ∨ k = 3 ∨ k = 4 ∨ k = 5 ∨ k = 6 ∨ k = 7 ∨ k = 8 ∨ k = 9 ∨ k = 10 ∨ k = 11 ∨ k = 12 ∨ k = 13 ∨ k = 14 ∨ k = 15 ∨ k = 16 ∨ k = 17 := by omega
  rcases this with rfl | rfl | rfl | rfl | rfl | rfl | rfl | rfl | rfl | rfl | rfl | rfl | rfl | rfl | rfl | rfl | rfl | rfl <;> rfl

theorem nameS_list (o : Int) : (nameS o).data.toList = nameL o := by unfold nameS; simp

theorem nameS_size {o : Int} (h0 : 0 ≤ o) (h1 : o ≤ 17) : (nameS o).size ≤ 5 := by
  rw [size_list, nameS_list]; exact nameL_len h0 h1

attribute [irreducible] nameCells nameS

/-- The names' variable holds what its text lays. -/
def NamesIs (w : World) : Prop := w.var? Tryz.prog "forebay/code.names" = some nameCells

theorem gNames : Tryz.prog.globalNamed "forebay/code.names" = some 0 := by kernel_rfl

theorem NamesIs.below {w w' : World} (h : NamesIs w) (hb : Below w.heap.size w w') : NamesIs w' := var_stays h gNames hb

theorem NamesIs.row {w : World} (h : NamesIs w) : ∃ t fr, w.heap[0]? = some (.cells nameCells t fr) := by
  unfold NamesIs World.var? at h
  rw [gNames] at h
  simp only [Option.bind_some] at h
  split at h
  · rename_i cs t fr hx
    injection h with h
    exact ⟨t, fr, by rw [hx, h]⟩
  · cases h

theorem NamesIs.cell {w : World} (h : NamesIs w) {o : Int} (h0 : 0 ≤ o) (h1 : o ≤ 17) : w.cell? ⟨0, o.toNat, none⟩ = some (.string (nameS o)) := by
  obtain ⟨t, fr, hr⟩ := h.row
  have := nameCells_get o.toNat (by omega)
  rw [show ((o.toNat : Nat) : Int) = o by omega] at this
  rw [cell_of_row _ _ _ _ _ _ hr]
  exact this

/-- What the package-level variables hold. -/
structure Env4 (w : World) : Prop where
  num : NumEnv w
  names : NamesIs w
  most : ∃ m, w.cell? ⟨1, 0, none⟩ = some (.int .i64 m)

theorem Env4.below {w w' : World} (h : Env4 w) (hb : Below w.heap.size w w') : Env4 w' := by
  refine ⟨h.num.below hb, h.names.below hb, ?_⟩
  obtain ⟨m, hm⟩ := h.most
  exact ⟨m, (hb.cell (p := ⟨1, 0, none⟩) (World.block_lt_of_cell? w _ hm)).trans hm⟩

theorem wordI_plain {o a : Int} (h : numdI o = false) : wordI (o, a) = nameL o := by unfold wordI; rw [h]; simp

theorem wordI_num {o a : Int} (h : numdI o = true) : wordI (o, a) = nameL o ++ 32 :: itoa a := by unfold wordI; rw [h]; simp

theorem box_of' (w : World) (t : TypeId) (m n : Value) : ∃ W : World, w.alloc (.cells #[m, n] t) = W ∧
    (W.cell? ⟨w.heap.size, 0, none⟩ = some m ∧ W.cell? ⟨w.heap.size, 1, none⟩ = some n) ∧ w.heap.size < W.heap.size ∧ Hid (Below w.heap.size w W) := by
  refine ⟨_, rfl, ⟨?_, ?_⟩, ?_, hid ((Below.refl _ w).alloc (Nat.le_refl _) _)⟩
  all_goals simp

theorem held_word {V w' : World} {g k : Nat} {m n s : Value} (h0 : V.cell? ⟨g, 0, none⟩ = some m) (h1 : V.cell? ⟨g, 1, none⟩ = some n) (h2 : V.cell? ⟨0, k, none⟩ = some s) (hg : g < V.heap.size) (hk : 0 < V.heap.size) (hb : Hid (Below V.heap.size V w')) :
    w'.cell? ⟨g, 0, none⟩ = some m ∧ w'.cell? ⟨g, 1, none⟩ = some n ∧ w'.cell? ⟨0, k, none⟩ = some s ∧ Hid (Below V.heap.size V w') :=
  ⟨((bcell hb.out).1 _ _ hg).trans h0, ((bcell hb.out).1 _ _ hg).trans h1, ((bcell hb.out).1 _ _ hk).trans h2, hb⟩

set_option maxHeartbeats 1000000 in
theorem words_any (o a : Int) (hr : Hid (rightI (o, a) = true)) (T : ByteArray) (hT : Hid ((⟨(wordI (o, a)).toArray⟩ : ByteArray) = T)) (w : World) (he : Env4 w) :
    Calls Tryz.prog 65 #[val o a] w fun e w' => e = .returned (.string T) ∧ Below w.heap.size w w' := by
  obtain ⟨h0, h1, _, _⟩ := rightI_bounds hr.out
  change 0 ≤ o at h0
  change o ≤ 17 at h1
  have h18 : o < 18 := by omega
  have hB := (Below.refl _ w).alloc (Nat.le_refl _) (.cells #[.int .i64 o, .int .i64 a] 88)
  have HE := hid he; clear he
  have HB := hid hB; clear hB
  obtain ⟨S, hS⟩ : ∃ S, nameS o = S := ⟨_, rfl⟩
  have hs5 : S.size ≤ 5 := by rw [← hS]; exact nameS_size h0 h1
  have hc : (w.alloc (.cells #[.int .i64 o, .int .i64 a] 88)).cell? ⟨0, o.toNat, none⟩ = some (.string S) := by
    rw [← hS]; exact (HE.out.below HB.out).names.cell h0 h1
  have HS : Hid (S.data.toList = nameL o) := hid (by rw [← hS]; exact nameS_list o)
  clear hS
  cases hn : numdI o with
  | false =>
    have HN := hid hn; clear hn
    obtain rfl : S = T := by
      have := hT.out
      rw [wordI_plain HN.out, ← HS.out, mk_data] at this
      exact this
    clear hT
    go_enter Tryz.func65, Tryz.ntmps65
    go_wp2_with fail
    refine (numbered_any o false HN _).mono ?_
    rintro e w' ⟨rfl, rfl⟩
    go_wp2_with fail
    go_ret
    exact ⟨rfl, HB.out⟩
  | true =>
    have HN := hid hn; clear hn
    obtain ⟨D, hD⟩ : ∃ D : ByteArray, ⟨(itoa a).toArray⟩ = D := ⟨_, rfl⟩
    have hd : D.size ≤ 21 := by rw [← hD, size_mk]; exact itoa_len a (rightI_small hr.out)
    have HD := hid hD
    have HT : Hid (S ++ ⟨#[32]⟩ ++ D = T) := hid (by
      rw [← hT.out, wordI_num HN.out, ← HS.out, ← hD]
      apply ByteArray.ext; simp)
    have HSM := hid (rightI_small hr.out)
    have m1 : ¬ 9223372036854775807 < S.size + 1 := by omega
    have m2 : ¬ 9223372036854775807 < S.size + 1 + D.size := by omega
    clear hD hT
    go_enter Tryz.func65, Tryz.ntmps65
    go_wp2_with fail
    refine (numbered_any o true HN _).mono ?_
    rintro e w' ⟨rfl, rfl⟩
    go_wp2_with fail
    obtain ⟨V, hV, ⟨c0, c1⟩, hg, HV⟩ := box_of' w 88 (.int .i64 o) (.int .i64 a)
    rw [hV] at hc ⊢; clear hV
    have HTV : Hid (Tab V) := hid (HE.out.below HV.out).num.tab
    have hcl : 0 < V.heap.size := World.block_lt_of_cell? V _ hc
    have hb0 : Hid (Below V.heap.size V V.drew) := hid (Below.refl _ V).drew
    go_region_held3 (fun w' => w'.cell? ⟨w.heap.size, 0, none⟩ = some (.int .i64 o) ∧ w'.cell? ⟨w.heap.size, 1, none⟩ = some (.int .i64 a) ∧ w'.cell? ⟨0, o.toNat, none⟩ = some (.string S) ∧ Hid (Below V.heap.size V w')) (exact held_word c0 c1 hc hg hcl (by assumption))
      (first
        | (go_at_call 83; ((with_reducible refine (itoa_from (W := V) a HSM.out D HD HTV _ ?_).mono ?_); exact (And.right (And.right (And.right (by assumption)))); rintro e w' ⟨rfl, hb⟩)))
    all_goals
      go_wp2
      go_ret
      exact ⟨by rw [HT.out]; rfl, HV.out.trans (Hid.out (And.right (And.right (And.right (by assumption : _ ∧ _ ∧ _ ∧ Hid (Below V.heap.size V _))))) |>.mono HV.out.size)⟩

theorem idx_names (k : Nat) (h : k < 18) (w : World) : (Instr.index 117 (.agg nameCells) (.int .i64 k)).run Tryz.prog w = .ok (.string (nameS k)) w := by
  have : k = 0 ∨ k = 1 ∨ k = 2 ∨ k = 3 ∨ k = 4 ∨ k = 5 ∨ k = 6 ∨ k = 7 ∨ k = 8 ∨ k = 9 ∨ k = 10 ∨ k = 11 ∨ k = 12 ∨ k = 13 ∨ k = 14 ∨ k = 15 ∨ k = 16 ∨ k = 17 := by omega
  unfold nameCells nameS
  rcases this with rfl | rfl | rfl | rfl | rfl | rfl | rfl | rfl | rfl | rfl | rfl | rfl | rfl | rfl | rfl | rfl | rfl | rfl <;>
    simp [Instr.index, run_underlying Tryz.underlying117, asIntOf, go_sem, opNames, nameL]

theorem opNames_len : opNames.length = 18 := rfl

theorem nameL_at (k : Nat) (h : k < opNames.length) : nameL (k : Nat) = opNames[k] := by
  unfold nameL
  rw [show ((k : Nat) : Int).toNat = k by omega, List.getD_eq_getElem?_getD, List.getElem?_eq_getElem h]
  rfl

theorem opOf_hit {N : List UInt8} {k : Nat} (h : k < 18) (hk : nameL (k : Nat) = N) (hj : ∀ j : Nat, j < k → nameL (j : Nat) ≠ N) : opOf N = (k : Nat) := by
  have hl : k < opNames.length := by rw [opNames_len]; exact h
  have e : opNames.findIdx? (· == N) = some k := by
    rw [List.findIdx?_eq_some_iff_getElem]
    refine ⟨hl, ?_, fun j hjk => ?_⟩
    · have := nameL_at k hl
      rw [hk] at this
      simp [this]
    · have := hj j hjk
      rw [nameL_at j (by omega)] at this
      simpa using this
  unfold opOf
  rw [e]

theorem opOf_miss {N : List UInt8} (hj : ∀ j : Nat, j < 18 → nameL (j : Nat) ≠ N) : opOf N = -1 := by
  have e : opNames.findIdx? (· == N) = none := by
    rw [List.findIdx?_eq_none_iff]
    intro x hx
    obtain ⟨j, hj1, rfl⟩ := List.getElem_of_mem hx
    have := hj j (by rw [← opNames_len]; exact hj1)
    rw [nameL_at j hj1] at this
    simpa using this
  unfold opOf
  rw [e]

theorem namesInfo : (Tryz.prog.info? 117).map (·.size) = some nameCells.size := by rw [nameCells_size']; kernel_rfl

set_option maxHeartbeats 1000000 in
theorem operation_any (S : ByteArray) (o : Int) (ho : Hid (opOf S.data.toList = o)) (w : World) (he : Env4 w) :
    Calls Tryz.prog 41 #[.string S] w fun e w' => e = .returned (.int .i64 o) ∧ w' = w := by
  obtain ⟨t, fr, hr⟩ := he.names.row
  have HR := hid hr; clear hr he
  have HX : Hid (∀ (k : Nat), k < 18 → ∀ w : World, (Instr.index 117 (.agg nameCells) (.int .i64 k)).run Tryz.prog w = .ok (.string (nameS k)) w) := hid idx_names
  go_enter Tryz.func41, Tryz.ntmps41
  go_wp2_with (refine wpList_load_row rfl 117 _ rfl 0 rfl t nameCells fr _ HR.out Tryz.underlying117 rfl namesInfo ?_)
  go_loopw [6] (fun i wr => ∃ k : Nat, k ≤ 18 ∧ i = .int .i64 k ∧ Hid (∀ j : Nat, j < k → nameL (j : Nat) ≠ S.data.toList) ∧ wr = w) (fun i _ => 18 - (RowKit.intOf i).toNat)
  case atStart => exact ⟨0, by omega, rfl, hid (fun j hj => by omega), rfl⟩
  case round =>
    obtain ⟨k, hk, rfl, hj, rfl⟩ := hrel
    by_cases hlt : k < 18
    · have hx := HX.out k hlt
      by_cases hq : nameS k = S
      · have hb := str_beq hq
        have HQ : Hid (nameL k = S.data.toList) := hid (by rw [← nameS_list, hq])
        clear hq
        go_wp2_with fail
        go_ret
        exact ⟨by rw [← ho.out, opOf_hit hlt HQ.out hj.out]; rfl, rfl⟩
      · have hb := str_bne hq
        have HQ : Hid (nameL k ≠ S.data.toList) := hid (fun e => hq (by rw [← mk_data (nameS k), nameS_list, e, mk_data]))
        clear hq
        go_wp2_with fail
        go_roundw
        case rel =>
          refine ⟨k + 1, by omega, by go_num, hid (fun j hjk => ?_), by trivial⟩
          rcases Nat.lt_or_ge j k with h1 | h1
          · exact hj.out j h1
          · obtain rfl : j = k := by omega
            exact HQ.out
        case measure => simp [RowKit.intOf]; omega
    · obtain rfl : k = 18 := by omega
      go_wp2_with fail
      go_ret
      exact ⟨by rw [← ho.out, opOf_miss hj.out]; rfl, rfl⟩

set_option maxHeartbeats 1000000 in
theorem word_any (b : Nat) (L W R : ByteArray) (hW : Hid ((⟨(wordL L.data.toList).toArray⟩ : ByteArray) = W)) (hR : Hid ((⟨(restL L.data.toList).toArray⟩ : ByteArray) = R)) (hs : L.size ≤ 1000) (w : World)
    (hc : w.cell? ⟨b, 0, none⟩ = some (.string L)) (hf : w.frozen? ⟨b, 0, none⟩ = false) (he : Env4 w) :
    Calls Tryz.prog 38 #[.pointer (some ⟨b, 0, none⟩)] w fun e w' => e = .returned (.string W) ∧ ∃ n, w' = (w.drewN n).setCell ⟨b, 0, none⟩ (.string R) := by
  obtain ⟨m, hm⟩ := he.most
  have HM := hid hm; clear hm he
  obtain ⟨C, hC⟩ : ∃ C : ByteArray, ⟨(cut L.data.toList [32]).1.toArray⟩ = C := ⟨_, rfl⟩
  obtain ⟨k, hk⟩ : ∃ k, (cut L.data.toList [32]).2.2 = k := ⟨_, rfl⟩
  have hCs : C.size ≤ 1000 := by
    rw [← hC, size_mk]
    have : (cut L.data.toList [32]).1.length ≤ L.data.toList.length := by
      unfold cut; split
      · simp; omega
      · simp
    rw [← size_list] at this
    omega
  have HCut : Hid (∀ w : World, w.cell? ⟨1, 0, none⟩ = some (.int .i64 m) → Calls Tryz.prog 39 #[.string L, .string ⟨#[32]⟩] w fun e w' => e = .returned (.tuple #[.string C, .string R, .bool k]) ∧ ∃ n, w' = w.drewN n) := hid (fun w hm => by
    have := Tryz.strings_Cut L ⟨#[32]⟩ m w (by omega) hm
    rw [← hC, ← hk, ← hR.out]
    exact this)
  have HT : Hid (∀ w : World, Calls Tryz.prog 40 #[.string C, .string ⟨#[59]⟩] w fun e w' => e = .returned (.string W) ∧ w' = w) := hid (fun w => by
    have := Tryz.strings_TrimSuffix C ⟨#[59]⟩ w (by omega)
    rw [← hW.out]
    have e : C.data.toList = (cut L.data.toList [32]).1 := by rw [← hC]
    rw [e] at this
    exact this)
  clear hC hk hW hR
  have hc1 : ∀ n, (w.drewN n).cell? ⟨b, 0, none⟩ = some (.string L) := fun _ => hc
  have hf1 : ∀ n, (w.drewN n).frozen? ⟨b, 0, none⟩ = false := fun _ => hf
  go_enter Tryz.func38, Tryz.ntmps38
  go_wp2_with fail
  refine (HCut.out _ HM.out).mono ?_
  rintro e w1 ⟨rfl, n, rfl⟩
  go_wp2_with fail
  refine (HT.out _).mono ?_
  rintro e w1 ⟨rfl, rfl⟩
  go_wp2_with fail
  go_ret
  exact ⟨rfl, n, rfl⟩

end Go.Proofs.YtfhlpbjdcdagjaaGreatDoor

namespace Go.Proofs.YtfhlpbjdcdagjaaGreatDoor
open Go.RowKit Go.Lib
set_option linter.unusedVariables false
set_option maxRecDepth 100000

/-- What is owned stays so, if nothing that was there turns. -/
theorem owns_below {w w' : World} {base : Nat} {e : TypeId} {size : Nat} {v : Value} {n : Nat} {xs : List Value} (h : w.ownsRow base e size v n xs) (hb : Below w.heap.size w w') : w'.ownsRow base e size v n xs := by
  refine h.kept (turned_below hb none) ?_
  cases hv : v.ownBlock with
  | none => exact .inl rfl
  | some k => exact .inr (by simp)

theorem owns_lt {w : World} {base : Nat} {e : TypeId} {size : Nat} {v : Value} {n : Nat} {xs : List Value} (h : w.ownsRow base e size v n xs) : ∀ k, v.ownBlock = some k → base ≤ k ∧ k < w.heap.size := h.lt

/-- An instruction's words, as the program's own string. -/
def wS (x : Int × Int) : ByteArray := ⟨(wordI x).toArray⟩

theorem wS_list (x : Int × Int) : (wS x).data.toList = wordI x := by unfold wS; simp

attribute [irreducible] wS

def strsOf (l : List (Int × Int)) : List Value := l.map fun x => .string (wS x)

theorem strsOf_snoc {l : List (Int × Int)} {k : Nat} (h : k < l.length) : strsOf (l.take (k + 1)) = strsOf (l.take k) ++ [.string (wS (l.getD k (0, 0)))] := by
  unfold strsOf
  rw [List.take_succ_eq_append_getElem h, List.map_append, List.getD_eq_getElem?_getD, List.getElem?_eq_getElem h]
  rfl

theorem strInfo : (Tryz.prog.info? 9).map (fun i => (i.zero, i.size, i.bytes)) = some (some (.string ByteArray.empty), 1, 16) := by kernel_rfl

theorem join_own {B : Nat} (v : Value) (l : List (Int × Int)) (hr : l.all rightI = true) (hl : l.length ≤ 24) (T : ByteArray) (hT : Hid ((⟨(textL l).toArray⟩ : ByteArray) = T)) (w : World) (h : w.ownsRow B 9 1 v l.length (strsOf l)) :
    Calls Tryz.prog 66 #[v, .string ⟨#[59, 32]⟩] w fun e w' => e = .returned (.string T) ∧ Below w.heap.size w w' := by
  have e1 : (l.map wS).map (·.data.toList) = l.map wordI := by
    rw [List.map_map]
    apply List.map_congr_left
    intro x _
    exact wS_list x
  have e2 : (⟨#[59, 32]⟩ : ByteArray).data.toList = [59, 32] := rfl
  rcases h.2 with ⟨rfl, hn⟩ | ⟨g, cap, cur, rfl, hb, hg, hc, hm, hs, hx⟩
  · have hl0 : l = [] := List.eq_nil_of_length_eq_zero hn
    subst hl0
    refine (Tryz.strings_Join_none none 0 _ w).mono ?_
    rintro e w' ⟨rfl, rfl⟩
    exact ⟨by rw [← hT.out]; rfl, Below.refl _ _⟩
  · have hlen : (l.map wS).length = l.length := by simp
    have := Tryz.strings_Join g 0 cap (l.map wS) ⟨#[59, 32]⟩ w (fun j x hj => by
      rw [Nat.zero_add]
      have hjl : j < l.length := by
        rcases Nat.lt_or_ge j l.length with h1 | h1
        · exact h1
        · rw [List.getElem?_eq_none (by rw [hlen]; exact h1)] at hj; cases hj
      rw [h.cellAt j (by omega)]
      unfold strsOf
      rw [List.getElem?_map] at hj ⊢
      rw [List.getElem?_eq_getElem hjl] at hj ⊢
      simp only [Option.map_some, Option.some.injEq] at hj ⊢
      rw [hj]) ((Array.getElem?_eq_some_iff.1 hg).1) (by rw [hlen]; omega) (by rw [hlen]; exact hc) (by
        rw [e1, e2]
        have := textL_len l hr
        unfold textL at this
        omega)
    rw [e1, e2, hlen] at this
    refine this.mono ?_
    rintro e w' ⟨rfl, hb⟩
    exact ⟨by rw [← hT.out]; rfl, hb⟩

set_option maxRecDepth 100000 in
set_option maxHeartbeats 2000000 in
theorem ctext_any (v : Value) (l : List (Int × Int)) (T : ByteArray) (hT : Hid ((⟨(outL l).toArray⟩ : ByteArray) = T)) (hl : l.length ≤ 1000000000000) (w : World) (hv : SlV w w.heap.size v l) (he : Env4 w) :
    Calls Tryz.prog 44 #[v] w fun e w' => e = .returned (.string T) ∧ Below w.heap.size w w' := by
  have HV := hid hv
  have HE := hid he; clear he
  obtain ⟨A, c, rfl, hc, hA⟩ := hv
  have HA := hid hA; clear hA
  cases hf : fitsL l with
  | false =>
    have HF := hid hf; clear hf
    obtain rfl : (⟨#[]⟩ : ByteArray) = T := by rw [← hT.out, textL_out_not HF.out]
    clear hT
    go_enter Tryz.func44, Tryz.ntmps44
    go_wp2_with fail
    refine (fits_any _ l false HF hl w HV.out).mono ?_
    rintro e w1 ⟨rfl, hb⟩
    go_wp2_with fail
    go_ret
    exact ⟨rfl, hb⟩
  | true =>
    have HF := hid hf
    obtain ⟨h24, hall⟩ := (fitsL_iff l).1 hf
    have HAL := hid hall
    clear hf hall
    have HT : Hid ((⟨(textL l).toArray⟩ : ByteArray) = T) := hid (by rw [← hT.out, textL_out HF.out])
    clear hT
    obtain ⟨i0, hi, hz0, hz1, hz2⟩ := info_parts strInfo
    go_enter Tryz.func44, Tryz.ntmps44
    go_wp2_with fail
    refine (fits_any _ l true HF hl w HV.out).mono ?_
    rintro e w1 ⟨rfl, hb⟩
    have HB1 := hid hb; clear hb
    go_wp2_with fail
    go_loopw [3, 11] (fun s i wr => ∃ k : Nat, k ≤ l.length ∧ i = .int .i64 k ∧ Hid (wr.ownsRow w.heap.size 9 1 s k (strsOf (l.take k))) ∧ Hid (Below w.heap.size w wr)) (fun _ i _ => l.length - (RowKit.intOf i).toNat)
    case atStart => exact ⟨0, Nat.zero_le _, rfl, hid (World.ownsRow_nil _ _ _ _), HB1⟩
    case round =>
      clear HB1
      obtain ⟨k, hk, rfl, hown, hbel⟩ := hrel
      by_cases hlt : k < l.length
      · obtain ⟨b1, o1, rfl, hbB, hcell⟩ := HA.out (by omega)
        obtain ⟨ca, cb⟩ := hcell k hlt
        obtain ⟨o, a, hoa⟩ := pair_of (p := l.getD k (0, 0))
        rw [hoa] at ca cb
        have HOA := hid hoa; clear hoa hcell
        have ca' := (hbel.out.cell (p := ⟨b1, o1 + k * 2, none⟩) hbB).trans ca
        have cb' := (hbel.out.cell (p := ⟨b1, o1 + k * 2 + 1, none⟩) hbB).trans cb
        clear ca cb
        have HR : Hid (rightI (o, a) = true) := hid (by
          have := List.all_eq_true.1 HAL.out (l[k]'hlt) (List.getElem_mem hlt)
          have e := HOA.out
          rw [List.getD_eq_getElem?_getD, List.getElem?_eq_getElem hlt] at e
          rw [← e]; exact this)
        obtain ⟨S, hS⟩ : ∃ S, wS (o, a) = S := ⟨_, rfl⟩
        have HS : Hid ((⟨(wordI (o, a)).toArray⟩ : ByteArray) = S) := hid (by rw [← hS, ← wS_list, mk_data])
        have HS2 := hid hS; clear hS
        have HB2 := hid (hbel.out.alloc hbel.out.size (.cells #[.int .i64 o, .int .i64 a] 88))
        have HO2 := hid (hown.out.alloc (.cells #[.int .i64 o, .int .i64 a] 88))
        go_wp2_with fail
        refine (words_any o a HR S HS _ (HE.out.below HB2.out)).mono ?_
        rintro e w2 ⟨rfl, hb2⟩
        have HB3 := hid (HB2.out.trans (hb2.mono HB2.out.size))
        have HO3 := hid ((owns_below HO2.out hb2).alloc (.cells #[.string S] 9))
        have HB4 := hid (HB3.out.alloc HB3.out.size (.cells #[.string S] 9))
        have HC : Hid (∀ j u, [Value.string S][j]? = some u → (w2.alloc (.cells #[.string S] 9)).cell? ((⟨w2.heap.size, 0, none⟩ : Addr).add j) = some u) := hid (fun j u hj => new_cells _ #[.string S] _ j u (by simpa using hj))
        clear hb2
        go_wp2_with (at_builtin; refine wpList_append_own _ rfl _ _ 121 rfl w.heap.size 9 i0 (.string ByteArray.empty) 1 16 Tryz.underlying121 hi hz0 hz1 hz2 rfl (by decide) _ _ _ rfl HO3.out ⟨w2.heap.size, 0, none⟩ 1 1 [.string S] rfl rfl HC.out (by intro u hu; simp at hu; subst hu; rfl) (by unfold maxLen; omega) (by omega) HB4.out.size ?_; intro s' w3 hown3 hg3 _)
        go_roundw
        case rel =>
          refine ⟨k + 1, by omega, by go_num, hid ?_, hid ?_⟩
          · rw [strsOf_snoc hlt, HOA.out, HS2.out]
            exact hown3
          · exact HB4.out.grown hg3 HB4.out.size (fun g hg => (HO3.out.lt g hg).1)
        case measure => simp [RowKit.intOf]; omega
      · obtain rfl : k = l.length := by omega
        have HO : Hid (wr.ownsRow w.heap.size 9 1 _ l.length (strsOf l)) := hid (by
          have := hown.out
          rw [List.take_of_length_le (Nat.le_refl _)] at this
          exact this)
        clear hown
        go_wp2_with fail
        refine (join_own (B := w.heap.size) _ l HAL.out h24 T HT _ HO.out).mono ?_
        rintro e w2 ⟨rfl, hb2⟩
        have HB3 := hid (hbel.out.trans (hb2.mono hbel.out.size)); clear hb2
        go_wp2_with fail
        go_ret
        exact ⟨rfl, HB3.out⟩

end Go.Proofs.YtfhlpbjdcdagjaaGreatDoor
