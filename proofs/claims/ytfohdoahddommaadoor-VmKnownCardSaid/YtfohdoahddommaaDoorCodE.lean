/- Layer 4, code: the names in memory; words of an instruction; the operation of a name. -/
import Derived.Test.YtfohdoahddommaaDoorCodA
import Derived.Test.YtfohdoahddommaaDoorEnvN
import Derived.Test.YtfohdoahddommaaDoorRegQ
import Derived.Deep.RegionHeld3
namespace Go.Proofs.YtfohdoahddommaaDoor
open Go.RowKit Go.Lib
set_option linter.unusedVariables false
set_option maxRecDepth 100000

def nameS (o : Int) : ByteArray := ⟨(nameL o).toArray⟩

def nameCells : Array Value := (opNames.map fun n => Value.string ⟨n.toArray⟩).toArray

theorem nameCells_size' : nameCells.size = 18 := rfl

theorem nameCells_lit : nameCells = #[.string ⟨#[72, 65, 76, 84]⟩, .string ⟨#[80, 85, 83, 72]⟩, .string ⟨#[80, 85, 83, 72, 73]⟩, .string ⟨#[73, 78]⟩, .string ⟨#[76, 79, 65, 68]⟩, .string ⟨#[83, 84, 79, 82, 69]⟩, .string ⟨#[65, 68, 68]⟩, .string ⟨#[83, 85, 66]⟩, .string ⟨#[77, 85, 76]⟩, .string ⟨#[67, 79, 78, 74]⟩, .string ⟨#[84, 85, 82, 78]⟩, .string ⟨#[68, 85, 80]⟩, .string ⟨#[83, 87, 65, 80]⟩, .string ⟨#[68, 82, 79, 80]⟩, .string ⟨#[69, 77, 73, 84]⟩, .string ⟨#[74, 90]⟩, .string ⟨#[74, 77, 80]⟩, .string ⟨#[76, 84]⟩] := rfl

theorem nameCells_get (k : Nat) (h : k < 18) : nameCells[k]? = some (.string (nameS k)) := by
  have : k = 0 ∨ k = 1 ∨ k = 2 ∨ k = 3 ∨ k = 4 ∨ k = 5 ∨ k = 6 ∨ k = 7 ∨ k = 8 ∨ k = 9 ∨ k = 10 ∨ k = 11 ∨ k = 12 ∨ k = 13 ∨ k = 14 ∨ k = 15 ∨ k = 16 ∨ k = 17 := by omega
  rcases this with rfl | rfl | rfl | rfl | rfl | rfl | rfl | rfl | rfl | rfl | rfl | rfl | rfl | rfl | rfl | rfl | rfl | rfl <;> rfl

theorem nameS_list (o : Int) : (nameS o).data.toList = nameL o := by unfold nameS; simp

theorem nameS_size {o : Int} (h0 : 0 ≤ o) (h1 : o ≤ 17) : (nameS o).size ≤ 5 := by
  rw [size_list, nameS_list]; exact nameL_len h0 h1

attribute [irreducible] nameCells nameS

/-- The names' variable holds what its text lays. -/
def NamesIs (w : World) : Prop := w.var? Tryd.prog "forebay/code.names" = some nameCells

theorem gNames : Tryd.prog.globalNamed "forebay/code.names" = some 0 := by kernel_rfl

theorem NamesIs.below {w w' : World} (h : NamesIs w) (hb : Below w.heap.size w w') : NamesIs w' := var_stays h gNames hb

theorem NamesIs.row {w : World} (h : NamesIs w) : ∃ t fr, w.heap[0]? = some (.cells nameCells t fr) := by
  unfold NamesIs World.var? at h
  rw [gNames] at h
  simp only [Option.bind_some] at h
  split at h
  · rename_i cs t fr hx
    injection h with h
    exact ⟨t, fr, by rw [hx, h]⟩
  · cases h

theorem NamesIs.cell {w : World} (h : NamesIs w) {o : Int} (h0 : 0 ≤ o) (h1 : o ≤ 17) : w.cell? ⟨0, o.toNat, none⟩ = some (.string (nameS o)) := by
  obtain ⟨t, fr, hr⟩ := h.row
  have := nameCells_get o.toNat (by omega)
  rw [show ((o.toNat : Nat) : Int) = o by omega] at this
  rw [cell_of_row _ _ _ _ _ _ hr]
  exact this

/-- What the package-level variables hold. -/
structure Env4 (w : World) : Prop where
  num : NumEnv w
  names : NamesIs w
  most : ∃ m, w.cell? ⟨1, 0, none⟩ = some (.int .i64 m)

theorem Env4.below {w w' : World} (h : Env4 w) (hb : Below w.heap.size w w') : Env4 w' := by
  refine ⟨h.num.below hb, h.names.below hb, ?_⟩
  obtain ⟨m, hm⟩ := h.most
  exact ⟨m, (hb.cell (p := ⟨1, 0, none⟩) (World.block_lt_of_cell? w _ hm)).trans hm⟩

theorem wordI_plain {o a : Int} (h : numdI o = false) : wordI (o, a) = nameL o := by unfold wordI; rw [h]; simp

theorem wordI_num {o a : Int} (h : numdI o = true) : wordI (o, a) = nameL o ++ 32 :: itoa a := by unfold wordI; rw [h]; simp

theorem box_of' (w : World) (t : TypeId) (m n : Value) : ∃ W : World, w.alloc (.cells #[m, n] t) = W ∧
    (W.cell? ⟨w.heap.size, 0, none⟩ = some m ∧ W.cell? ⟨w.heap.size, 1, none⟩ = some n) ∧ w.heap.size < W.heap.size ∧ Hid (Below w.heap.size w W) := by
  refine ⟨_, rfl, ⟨?_, ?_⟩, ?_, hid ((Below.refl _ w).alloc (Nat.le_refl _) _)⟩
  all_goals simp

theorem held_word {V w' : World} {g k : Nat} {m n s : Value} (h0 : V.cell? ⟨g, 0, none⟩ = some m) (h1 : V.cell? ⟨g, 1, none⟩ = some n) (h2 : V.cell? ⟨0, k, none⟩ = some s) (hg : g < V.heap.size) (hk : 0 < V.heap.size) (hb : Hid (Below V.heap.size V w')) :
    w'.cell? ⟨g, 0, none⟩ = some m ∧ w'.cell? ⟨g, 1, none⟩ = some n ∧ w'.cell? ⟨0, k, none⟩ = some s ∧ Hid (Below V.heap.size V w') :=
  ⟨((bcell hb.out).1 _ _ hg).trans h0, ((bcell hb.out).1 _ _ hg).trans h1, ((bcell hb.out).1 _ _ hk).trans h2, hb⟩

set_option maxHeartbeats 1000000 in
theorem words_any (o a : Int) (hr : Hid (rightI (o, a) = true)) (T : ByteArray) (hT : Hid ((⟨(wordI (o, a)).toArray⟩ : ByteArray) = T)) (w : World) (he : Env4 w) :
    Calls Tryd.prog 44 #[val o a] w fun e w' => e = .returned (.string T) ∧ Below w.heap.size w w' := by
  obtain ⟨h0, h1, _, _⟩ := rightI_bounds hr.out
  change 0 ≤ o at h0
  change o ≤ 17 at h1
  have h18 : o < 18 := by omega
  have hB := (Below.refl _ w).alloc (Nat.le_refl _) (.cells #[.int .i64 o, .int .i64 a] 37)
  have HE := hid he; clear he
  have HB := hid hB; clear hB
  obtain ⟨S, hS⟩ : ∃ S, nameS o = S := ⟨_, rfl⟩
  have hs5 : S.size ≤ 5 := by rw [← hS]; exact nameS_size h0 h1
  have hc : (w.alloc (.cells #[.int .i64 o, .int .i64 a] 37)).cell? ⟨0, o.toNat, none⟩ = some (.string S) := by
    rw [← hS]; exact (HE.out.below HB.out).names.cell h0 h1
  have HS : Hid (S.data.toList = nameL o) := hid (by rw [← hS]; exact nameS_list o)
  clear hS
  cases hn : numdI o with
  | false =>
    have HN := hid hn; clear hn
    obtain rfl : S = T := by
      have := hT.out
      rw [wordI_plain HN.out, ← HS.out, mk_data] at this
      exact this
    clear hT
    go_enter Tryd.func44, Tryd.ntmps44
    go_wp2_with fail
    refine (numbered_any o false HN _).mono ?_
    rintro e w' ⟨rfl, rfl⟩
    go_wp2_with fail
    go_ret
    exact ⟨rfl, HB.out⟩
  | true =>
    have HN := hid hn; clear hn
    obtain ⟨D, hD⟩ : ∃ D : ByteArray, ⟨(itoa a).toArray⟩ = D := ⟨_, rfl⟩
    have hd : D.size ≤ 21 := by rw [← hD, size_mk]; exact itoa_len a (rightI_small hr.out)
    have HD := hid hD
    have HT : Hid (S ++ ⟨#[32]⟩ ++ D = T) := hid (by
      rw [← hT.out, wordI_num HN.out, ← HS.out, ← hD]
      apply ByteArray.ext; simp)
    have HSM := hid (rightI_small hr.out)
    have m1 : ¬ 9223372036854775807 < S.size + 1 := by omega
    have m2 : ¬ 9223372036854775807 < S.size + 1 + D.size := by omega
    clear hD hT
    go_enter Tryd.func44, Tryd.ntmps44
    go_wp2_with fail
    refine (numbered_any o true HN _).mono ?_
    rintro e w' ⟨rfl, rfl⟩
    go_wp2_with fail
    obtain ⟨V, hV, ⟨c0, c1⟩, hg, HV⟩ := box_of' w 37 (.int .i64 o) (.int .i64 a)
    rw [hV] at hc ⊢; clear hV
    have HTV : Hid (Tab V) := hid (HE.out.below HV.out).num.tab
    have hcl : 0 < V.heap.size := World.block_lt_of_cell? V _ hc
    have hb0 : Hid (Below V.heap.size V V.drew) := hid (Below.refl _ V).drew
    go_region_held3 (fun w' => w'.cell? ⟨w.heap.size, 0, none⟩ = some (.int .i64 o) ∧ w'.cell? ⟨w.heap.size, 1, none⟩ = some (.int .i64 a) ∧ w'.cell? ⟨0, o.toNat, none⟩ = some (.string S) ∧ Hid (Below V.heap.size V w')) (exact held_word c0 c1 hc hg hcl (by assumption))
      (first
        | (go_at_call 63; ((with_reducible refine (itoa_from (W := V) a HSM.out D HD HTV _ ?_).mono ?_); exact (And.right (And.right (And.right (by assumption)))); rintro e w' ⟨rfl, hb⟩)))
    all_goals
      go_wp2
      go_ret
      exact ⟨by rw [HT.out]; rfl, HV.out.trans (Hid.out (And.right (And.right (And.right (by assumption : _ ∧ _ ∧ _ ∧ Hid (Below V.heap.size V _))))) |>.mono HV.out.size)⟩

theorem idx_names (k : Nat) (h : k < 18) (w : World) : (Instr.index 79 (.agg nameCells) (.int .i64 k)).run Tryd.prog w = .ok (.string (nameS k)) w := by
  have : k = 0 ∨ k = 1 ∨ k = 2 ∨ k = 3 ∨ k = 4 ∨ k = 5 ∨ k = 6 ∨ k = 7 ∨ k = 8 ∨ k = 9 ∨ k = 10 ∨ k = 11 ∨ k = 12 ∨ k = 13 ∨ k = 14 ∨ k = 15 ∨ k = 16 ∨ k = 17 := by omega
  unfold nameCells nameS
  rcases this with rfl | rfl | rfl | rfl | rfl | rfl | rfl | rfl | rfl | rfl | rfl | rfl | rfl | rfl | rfl | rfl | rfl | rfl <;>
    simp [Instr.index, run_underlying Tryd.underlying79, asIntOf, go_sem, opNames, nameL]

theorem opNames_len : opNames.length = 18 := rfl

theorem nameL_at (k : Nat) (h : k < opNames.length) : nameL (k : Nat) = opNames[k] := by
  unfold nameL
  rw [show ((k : Nat) : Int).toNat = k by omega, List.getD_eq_getElem?_getD, List.getElem?_eq_getElem h]
  rfl

theorem opOf_hit {N : List UInt8} {k : Nat} (h : k < 18) (hk : nameL (k : Nat) = N) (hj : ∀ j : Nat, j < k → nameL (j : Nat) ≠ N) : opOf N = (k : Nat) := by
  have hl : k < opNames.length := by rw [opNames_len]; exact h
  have e : opNames.findIdx? (· == N) = some k := by
    rw [List.findIdx?_eq_some_iff_getElem]
    refine ⟨hl, ?_, fun j hjk => ?_⟩
    · have := nameL_at k hl
      rw [hk] at this
      simp [this]
    · have := hj j hjk
      rw [nameL_at j (by omega)] at this
      simpa using this
  unfold opOf
  rw [e]

theorem opOf_miss {N : List UInt8} (hj : ∀ j : Nat, j < 18 → nameL (j : Nat) ≠ N) : opOf N = -1 := by
  have e : opNames.findIdx? (· == N) = none := by
    rw [List.findIdx?_eq_none_iff]
    intro x hx
    obtain ⟨j, hj1, rfl⟩ := List.getElem_of_mem hx
    have := hj j (by rw [← opNames_len]; exact hj1)
    rw [nameL_at j hj1] at this
    simpa using this
  unfold opOf
  rw [e]

theorem namesInfo : (Tryd.prog.info? 79).map (·.size) = some nameCells.size := by rw [nameCells_size']; kernel_rfl

set_option maxHeartbeats 1000000 in
theorem operation_any (S : ByteArray) (o : Int) (ho : Hid (opOf S.data.toList = o)) (w : World) (he : Env4 w) :
    Calls Tryd.prog 25 #[.string S] w fun e w' => e = .returned (.int .i64 o) ∧ w' = w := by
  obtain ⟨t, fr, hr⟩ := he.names.row
  have HR := hid hr; clear hr he
  have HX : Hid (∀ (k : Nat), k < 18 → ∀ w : World, (Instr.index 79 (.agg nameCells) (.int .i64 k)).run Tryd.prog w = .ok (.string (nameS k)) w) := hid idx_names
  go_enter Tryd.func25, Tryd.ntmps25
  go_wp2_with (refine wpList_load_row rfl 79 _ rfl 0 rfl t nameCells fr _ HR.out Tryd.underlying79 rfl namesInfo ?_)
  go_loopw [6] (fun i wr => ∃ k : Nat, k ≤ 18 ∧ i = .int .i64 k ∧ Hid (∀ j : Nat, j < k → nameL (j : Nat) ≠ S.data.toList) ∧ wr = w) (fun i _ => 18 - (RowKit.intOf i).toNat)
  case atStart => exact ⟨0, by omega, rfl, hid (fun j hj => by omega), rfl⟩
  case round =>
    obtain ⟨k, hk, rfl, hj, rfl⟩ := hrel
    by_cases hlt : k < 18
    · have hx := HX.out k hlt
      by_cases hq : nameS k = S
      · have hb := str_beq hq
        have HQ : Hid (nameL k = S.data.toList) := hid (by rw [← nameS_list, hq])
        clear hq
        go_wp2_with fail
        go_ret
        exact ⟨by rw [← ho.out, opOf_hit hlt HQ.out hj.out]; rfl, rfl⟩
      · have hb := str_bne hq
        have HQ : Hid (nameL k ≠ S.data.toList) := hid (fun e => hq (by rw [← mk_data (nameS k), nameS_list, e, mk_data]))
        clear hq
        go_wp2_with fail
        go_roundw
        case rel =>
          refine ⟨k + 1, by omega, by go_num, hid (fun j hjk => ?_), by trivial⟩
          rcases Nat.lt_or_ge j k with h1 | h1
          · exact hj.out j h1
          · obtain rfl : j = k := by omega
            exact HQ.out
        case measure => simp [RowKit.intOf]; omega
    · obtain rfl : k = 18 := by omega
      go_wp2_with fail
      go_ret
      exact ⟨by rw [← ho.out, opOf_miss hj.out]; rfl, rfl⟩

set_option maxHeartbeats 1000000 in
theorem word_any (b : Nat) (L W R : ByteArray) (hW : Hid ((⟨(wordL L.data.toList).toArray⟩ : ByteArray) = W)) (hR : Hid ((⟨(restL L.data.toList).toArray⟩ : ByteArray) = R)) (hs : L.size ≤ 1000) (w : World)
    (hc : w.cell? ⟨b, 0, none⟩ = some (.string L)) (hf : w.frozen? ⟨b, 0, none⟩ = false) (he : Env4 w) :
    Calls Tryd.prog 22 #[.pointer (some ⟨b, 0, none⟩)] w fun e w' => e = .returned (.string W) ∧ ∃ n, w' = (w.drewN n).setCell ⟨b, 0, none⟩ (.string R) := by
  obtain ⟨m, hm⟩ := he.most
  have HM := hid hm; clear hm he
  obtain ⟨C, hC⟩ : ∃ C : ByteArray, ⟨(cut L.data.toList [32]).1.toArray⟩ = C := ⟨_, rfl⟩
  obtain ⟨k, hk⟩ : ∃ k, (cut L.data.toList [32]).2.2 = k := ⟨_, rfl⟩
  have hCs : C.size ≤ 1000 := by
    rw [← hC, size_mk]
    have : (cut L.data.toList [32]).1.length ≤ L.data.toList.length := by
      unfold cut; split
      · simp; omega
      · simp
    rw [← size_list] at this
    omega
  have HCut : Hid (∀ w : World, w.cell? ⟨1, 0, none⟩ = some (.int .i64 m) → Calls Tryd.prog 23 #[.string L, .string ⟨#[32]⟩] w fun e w' => e = .returned (.tuple #[.string C, .string R, .bool k]) ∧ ∃ n, w' = w.drewN n) := hid (fun w hm => by
    have := Tryd.strings_Cut L ⟨#[32]⟩ m w (by omega) hm
    rw [← hC, ← hk, ← hR.out]
    exact this)
  have HT : Hid (∀ w : World, Calls Tryd.prog 24 #[.string C, .string ⟨#[59]⟩] w fun e w' => e = .returned (.string W) ∧ w' = w) := hid (fun w => by
    have := Tryd.strings_TrimSuffix C ⟨#[59]⟩ w (by omega)
    rw [← hW.out]
    have e : C.data.toList = (cut L.data.toList [32]).1 := by rw [← hC]
    rw [e] at this
    exact this)
  clear hC hk hW hR
  have hc1 : ∀ n, (w.drewN n).cell? ⟨b, 0, none⟩ = some (.string L) := fun _ => hc
  have hf1 : ∀ n, (w.drewN n).frozen? ⟨b, 0, none⟩ = false := fun _ => hf
  go_enter Tryd.func22, Tryd.ntmps22
  go_wp2_with fail
  refine (HCut.out _ HM.out).mono ?_
  rintro e w1 ⟨rfl, n, rfl⟩
  go_wp2_with fail
  refine (HT.out _).mono ?_
  rintro e w1 ⟨rfl, rfl⟩
  go_wp2_with fail
  go_ret
  exact ⟨rfl, n, rfl⟩

end Go.Proofs.YtfohdoahddommaaDoor
