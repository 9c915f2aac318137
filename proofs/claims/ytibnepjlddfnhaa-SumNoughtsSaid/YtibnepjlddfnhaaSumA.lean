/- Layer 2, sum: the table of halves, and the sum of texts: a contract for each function. -/
import Derived.Test.YtibnepjlddfnhaaBase
import Derived.Test.YtibnepjlddfnhaaBits
import Derived.Test.YtibnepjlddfnhaaSumM
import Derived.Laws.CopyOwn
import Derived.Deep.WholeRow
namespace Go.Proofs.Ytibnepjlddfnhaa
open Go.RowKit
set_option linter.unusedVariables false

set_option maxHeartbeats 400000 in
theorem step_any (r n : Nat) (hr : r < 4294967296) (hn : n ≤ 1000) (w : World) :
    Calls Try.prog 20 #[.int .u32 r, .int .i64 n] w fun e w' => e = .returned (.int .u32 (stN n r)) ∧ w = w' := by
  go_enter Try.func20, Try.ntmps20
  go_wp2
  go_loop [0, 6] (fun x i => ∃ k : Nat, k ≤ n ∧ i = .int .i64 k ∧ x = .int .u32 (stN k r)) (fun _ i => n - (intOf i).toNat)
  case atStart => exact ⟨0, Nat.zero_le _, rfl, rfl⟩
  case round =>
    obtain ⟨k, hk, rfl, rfl⟩ := hrel
    have hs := stN_lt k hr
    obtain ⟨x, hx⟩ : ∃ x, x = stN k r := ⟨_, rfl⟩
    rw [← hx] at hs ⊢
    have HX := hid hx; clear hx
    have HD : Hid (bits .xor .u32 ((x : Int) / 2) 2197175160 = (((x / 2) ^^^ poly : Nat) : Int)) := hid (by
      have := u32_xor (x / 2) poly (by omega) (by unfold poly; omega)
      rw [← this]; rfl)
    have ha : bits .and .u32 (x : Int) 1 = ((x % 2 : Nat) : Int) := u32_and_ones x 1 hs (by omega)
    by_cases hlt : k < n
    · by_cases hp : x % 2 = 1
      · have hb : (bits .and .u32 (x : Int) 1 == 1) = true := by rw [ha, hp]; rfl
        have HP := hid hp; clear ha hp
        go_wp2
        go_round
        case rel => exact ⟨k + 1, by omega, by go_num, by rw [HD.out, stN_succ, ← HX.out, st1, if_pos HP.out]⟩
        case measure => simp [intOf]; omega
      · have hb : (bits .and .u32 (x : Int) 1 == 1) = false := by rw [ha, show x % 2 = 0 by omega]; rfl
        have HP := hid hp; clear ha hp
        go_wp2
        go_round
        case rel => exact ⟨k + 1, by omega, by go_num, by rw [stN_succ, ← HX.out, st1, if_neg HP.out]; rfl⟩
        case measure => simp [intOf]; omega
    · obtain rfl : k = n := by omega
      clear ha
      go_wp2
      go_ret
      rw [← HX.out]
      exact ⟨rfl, rfl⟩

/-- The table with its first k places filled. -/
def tab (k : Nat) : Array Value := ((List.range 16).map fun i => if i < k then .int .u32 (stN 4 i) else .int .u32 0).toArray

theorem tab_size (k : Nat) : (tab k).size = 16 := by simp [tab]
theorem tab_at (k i : Nat) (h : i < 16) : (tab k)[i]? = some (if i < k then .int .u32 (stN 4 i) else .int .u32 0) := by
  simp [tab, h]
theorem tab_next (k : Nat) : (tab k).setIfInBounds k (.int .u32 (stN 4 k)) = tab (k + 1) := by
  apply Array.ext_getElem?
  intro i
  rw [Array.getElem?_setIfInBounds, tab_size]
  by_cases hi : i < 16
  · rw [tab_at _ _ hi, tab_at _ _ hi]
    by_cases hk : k = i
    · subst hk; rw [if_pos rfl, if_pos hi, if_pos (by omega)]
    · rw [if_neg hk]
      by_cases hl : i < k
      · rw [if_pos hl, if_pos (by omega)]
      · rw [if_neg hl, if_neg (by omega)]
  · rw [Array.getElem?_eq_none (by rw [tab_size]; omega), Array.getElem?_eq_none (by rw [tab_size]; omega)]
    split <;> simp; omega
theorem tab_one (k : Nat) : (tab k).all (·.oneCell') = true := by
  rw [Array.all_eq_true_iff_forall_mem]
  intro v hv
  obtain ⟨i, hi, rfl⟩ := Array.mem_iff_getElem.1 hv
  have hi' : i < 16 := by rw [tab_size] at hi; exact hi
  have := tab_at k i hi'
  rw [Array.getElem?_eq_getElem hi] at this
  injection this with this
  rw [this]
  split <;> rfl

theorem tab_zero : tab 0 = #[.int .u32 0, .int .u32 0, .int .u32 0, .int .u32 0, .int .u32 0, .int .u32 0, .int .u32 0, .int .u32 0, .int .u32 0, .int .u32 0, .int .u32 0, .int .u32 0, .int .u32 0, .int .u32 0, .int .u32 0, .int .u32 0] := rfl

set_option maxHeartbeats 400000 in
theorem halves_any (w : World) :
    Calls Try.prog 14 #[] w fun e w' => e = .returned (.agg (tab 16)) ∧ Below w.heap.size w w' := by
  go_enter Try.func14, Try.ntmps14
  go_wp2
  rw [← tab_zero]
  go_loopw [3] (fun i wr => ∃ k : Nat, k ≤ 16 ∧ i = .int .i64 k ∧ wr = (w.alloc (.cells (tab 0) 39)).alloc (.cells (tab k) 39)) (fun i _ => 16 - (intOf i).toNat)
  case atStart => exact ⟨0, Nat.zero_le _, rfl, rfl⟩
  case round =>
    obtain ⟨k, hk, rfl, rfl⟩ := hrel
    have HT := hid (tab_next k)
    by_cases hlt : k < 16
    · have hc : ((w.alloc (.cells (tab 0) 39)).alloc (.cells (tab k) 39)).cell? ⟨w.heap.size + 1, k, none⟩ = some (.int .u32 0) := by
        rw [cell_of_row _ _ _ _ _ _ (heap_alloc2_new w _ _), tab_at k k hlt, if_neg (by omega)]
      have hw : (k : Int) % 4294967296 = k := by omega
      go_wp2_with (go_at_call 20; refine (step_any k 4 (by omega) (by omega) _).mono ?_; rintro e w' ⟨rfl, rfl⟩)
      go_roundw
      case rel => exact ⟨k + 1, by omega, by go_num, by rw [← HT.out]⟩
      case measure => simp [intOf]; omega
    · obtain rfl : k = 16 := by omega
      have hi : (Try.prog.info? 39).map (·.size) = some (tab 16).size := by rw [tab_size]; kernel_rfl
      have hg1 := heap_alloc2_new w (.cells (tab 0) 39) (.cells (tab 16) 39)
      have hg0 := heap_alloc2_old w (.cells (tab 0) 39) (.cells (tab 16) 39)
      have ho : (tab 0).size = (tab 16).size := by rw [tab_size, tab_size]
      have HI := hid hi; have HG1 := hid hg1; have HG0 := hid hg0; have HO := hid ho; clear hi hg1 hg0 ho HT
      go_wp2_with (first
        | refine wpList_load_row rfl 39 _ rfl (w.heap.size + 1) rfl 39 (tab 16) (0, 0) _ HG1.out Try.underlying39 rfl HI.out ?_
        | refine wpList_store_row rfl 39 _ _ rfl w.heap.size (tab 16) rfl rfl 39 (tab 0) HG0.out HI.out HO.out (tab_one 16) ?_)
      refine bodyPost_ret (v := .agg (tab 16)) (results_cell_row rfl _ _ w.heap.size 39 (tab 16) (0, 0) _ rfl (setRow_heap _ _ _ _ _ _ HG0.out) Try.underlying39 rfl HI.out) rfl ⟨rfl, ?_⟩
      exact below_setRow (((Below.refl _ w).alloc (Nat.le_refl _) _).alloc (by simp) _) (Nat.le_refl _) _

/-- All bytes of some texts, one behind the other. -/
def bytesOf (ls : List ByteArray) : List UInt8 := ls.flatMap fun S => S.data.toList

theorem bytesOf_snoc (ls : List ByteArray) (k : Nat) (S : ByteArray) (h : ls[k]? = some S) : bytesOf (ls.take (k + 1)) = bytesOf (ls.take k) ++ S.data.toList := by
  have hk : k < ls.length := by
    rcases Nat.lt_or_ge k ls.length with h1 | h1
    · exact h1
    · rw [List.getElem?_eq_none h1] at h; cases h
  rw [List.getElem?_eq_getElem hk] at h
  injection h with h
  rw [bytesOf, bytesOf, List.take_succ_eq_append_getElem hk, List.flatMap_append, List.flatMap_singleton, h]

theorem take_snoc' {α : Type} (l : List α) (k : Nat) (c : α) (h : l[k]? = some c) : l.take (k + 1) = l.take k ++ [c] := by
  have hk : k < l.length := by
    rcases Nat.lt_or_ge k l.length with h1 | h1
    · exact h1
    · rw [List.getElem?_eq_none h1] at h; cases h
  rw [List.getElem?_eq_getElem hk] at h
  injection h with h
  rw [List.take_succ_eq_append_getElem hk, h]

theorem idx_str (S : ByteArray) (i : Nat) (p : UInt8) (h : S.data.toList[i]? = some p) (w : World) :
    (Instr.index 9 (.string S) (.int .i64 i)).run Try.prog w = .ok (.int .u8 p.toNat) w := by
  have hi : i < S.data.toList.length := by
    rcases Nat.lt_or_ge i S.data.toList.length with h1 | h1
    · exact h1
    · rw [List.getElem?_eq_none h1] at h; cases h
  have hs : i < S.size := by show i < S.data.size; simpa using hi
  rw [run_index_string _ _ _ _ _ Try.underlying9, dif_pos (by omega)]
  have : S[(i : Int).toNat]'(by omega) = p := by
    rw [List.getElem?_eq_getElem hi] at h
    injection h with h
  rw [this]

set_option maxHeartbeats 1000000 in
theorem of_any (v : Value) (ls : List ByteArray) (w : World) (hv : SlS w w.heap.size v ls) (hl : ls.length ≤ 1000000000000) (hz : ∀ S ∈ ls, S.size ≤ 1000000000000) :
    Calls Try.prog 8 #[v] w fun e w' => e = .returned (.int .i64 (crc (bytesOf ls) : Nat)) ∧ Below w.heap.size w w' := by
  have HZ := hid hz; clear hz
  have HI : Hid ((Try.prog.info? 39).map (·.size) = some (tab 16).size) := hid (by rw [tab_size]; kernel_rfl)
  obtain ⟨A, c, rfl, hc, hA⟩ := hv
  go_enter Try.func8, Try.ntmps8
  go_wp2_with fail
  refine (halves_any _).mono ?_
  rintro e w1 ⟨rfl, hb1⟩
  have HB := hid hb1; clear hb1
  go_wp2_with (refine wpList_store_row rfl 39 _ _ rfl w1.heap.size (tab 16) rfl rfl 39 (tab 0) (heap_alloc_new w1 _) HI.out rfl (tab_one 16) ?_)
  rw [World.setRow_alloc_new]
  have hT : ∀ i, i < 16 → (w1.alloc (.cells (tab 16) 39)).cell? ⟨w1.heap.size, i, none⟩ = some (.int .u32 (stN 4 i)) := fun i hi => by
    rw [cell_of_row _ _ _ _ _ _ (heap_alloc_new w1 _), tab_at 16 i hi, if_pos hi]
  have hbw : Below w.heap.size w (w1.alloc (.cells (tab 16) 39)) := HB.out.alloc HB.out.size _
  generalize hW : w1.alloc (.cells (tab 16) 39) = W at hT hbw ⊢
  generalize hG : w1.heap.size = G at hT ⊢
  clear hW hG
  have HT := hid hT; have HBW := hid hbw; have HA := hid hA; clear hT hbw hA HB HI
  go_loop [4, 11] (fun r i => ∃ k : Nat, k ≤ ls.length ∧ i = .int .i64 k ∧ r = .int .u32 (reg 4294967295 (bytesOf (ls.take k)))) (fun _ i => ls.length - (intOf i).toNat)
  case atStart => exact ⟨0, Nat.zero_le _, rfl, rfl⟩
  case round =>
    obtain ⟨k, hk, rfl, rfl⟩ := hrel
    by_cases hlt : k < ls.length
    · obtain ⟨b, o, rfl, hbB, hcell⟩ := HA.out (by omega)
      obtain ⟨S, hS⟩ : ∃ S, ls[k]? = some S := ⟨_, List.getElem?_eq_getElem hlt⟩
      have hc1 := (HBW.out.cell (p := ⟨b, o + k, none⟩) hbB).trans (hcell k S hS)
      have hsz := HZ.out S (List.mem_of_getElem? hS)
      have HN := hid (bytesOf_snoc ls k S hS)
      clear hcell hS
      obtain ⟨r0, hr0⟩ : ∃ r0, reg 4294967295 (bytesOf (ls.take k)) = r0 := ⟨_, rfl⟩
      have HR0 := hid hr0
      have hlt0 : r0 < 4294967296 := by rw [← hr0]; exact reg_lt _ (by omega)
      rw [hr0]
      clear hr0
      go_wp2
      go_loop [4, 17] (fun r i => ∃ j : Nat, j ≤ S.size ∧ i = .int .i64 j ∧ r = .int .u32 (reg r0 (S.data.toList.take j))) (fun _ i => S.size - (intOf i).toNat)
      case atStart => exact ⟨0, Nat.zero_le _, rfl, rfl⟩
      case round =>
        obtain ⟨j, hj, rfl, rfl⟩ := hrel
        obtain ⟨r1, hr1⟩ : ∃ r1, reg r0 (S.data.toList.take j) = r1 := ⟨_, rfl⟩
        have HR1 := hid hr1
        have hlt1 : r1 < 4294967296 := by rw [← hr1]; exact reg_lt _ hlt0
        rw [hr1]
        clear hr1
        by_cases hjl : j < S.size
        · obtain ⟨c1, hc1'⟩ : ∃ c1, S.data.toList[j]? = some c1 := ⟨_, List.getElem?_eq_getElem (by simpa using hjl)⟩
          have hix := idx_str S j c1 hc1'
          have HC := hid (take_snoc' _ _ _ hc1')
          clear hc1'
          obtain ⟨x, hx⟩ : ∃ x, x = r1 ^^^ c1.toNat := ⟨_, rfl⟩
          have hxl : x < 4294967296 := by rw [hx]; exact xor_lt32 hlt1 (byte_lt _)
          have hxor : bits .xor .u32 (r1 : Int) ((c1.toNat : Int) % 4294967296) = (x : Int) := by
            have := c1.toNat_lt
            rw [show ((c1.toNat : Int) % 4294967296) = (c1.toNat : Int) by omega, u32_xor _ _ hlt1 (byte_lt _), hx]
          have HX := hid hx; clear hx
          go_wp2
          clear hix hxor
          go_loop [4, 26] (fun r i => ∃ m : Nat, m ≤ 2 ∧ i = .int .i64 m ∧ r = .int .u32 (stN (4 * m) x)) (fun _ i => 2 - (intOf i).toNat)
          case atStart => exact ⟨0, by omega, rfl, rfl⟩
          case round =>
            obtain ⟨m, hm, rfl, rfl⟩ := hrel
            obtain ⟨y, hy⟩ : ∃ y, stN (4 * m) x = y := ⟨_, rfl⟩
            have HY := hid hy
            have hyl : y < 4294967296 := by rw [← hy]; exact stN_lt _ hxl
            rw [hy]
            clear hy
            by_cases hml : m < 2
            · obtain ⟨q, hq⟩ : ∃ q, q = y % 16 := ⟨_, rfl⟩
              have hq16 : q < 16 := by omega
              obtain ⟨t, ht⟩ : ∃ t, stN 4 q = t := ⟨_, rfl⟩
              have htl : t < 4294967296 := by rw [← ht]; exact stN_lt _ (by omega)
              have hct := HT.out q hq16
              rw [ht] at hct
              have hand : bits .and .u32 (y : Int) 15 = (q : Int) := by rw [hq]; exact u32_and_ones y 4 hyl (by omega)
              have HD : Hid (bits .xor .u32 ((y : Int) / 16) (t : Int) = ((stN 4 y : Nat) : Int)) := hid (by
                have := u32_xor (y / 16) t (by omega) htl
                rw [← nib y, ← hq, ht, ← this]; rfl)
              clear hq ht
              go_wp2
              go_round
              case rel => exact ⟨m + 1, by omega, by go_num, by rw [HD.out, show 4 * (m + 1) = 4 * m + 4 by omega, stN_add, HY.out]⟩
              case measure => simp [intOf]; omega
            · have HM : Hid (m = 2) := hid (by omega)
              go_wp2
              go_round
              case rel => exact ⟨j + 1, by omega, by go_num, by rw [HC.out, reg_snoc, HR1.out, ← HX.out, ← HY.out, HM.out]⟩
              case measure => simp [intOf]; omega
        · have HJ : Hid (j = S.size) := hid (by omega)
          go_wp2
          go_round
          case rel => exact ⟨k + 1, by omega, by go_num, by rw [HN.out, reg_append, HR0.out, ← HR1.out, HJ.out, List.take_of_length_le (by simp)]⟩
          case measure => simp [intOf]; omega
    · have HK : Hid (k = ls.length) := hid (by omega)
      have hlt0 := reg_lt (bytesOf (ls.take k)) (r := 4294967295) (by omega)
      obtain ⟨r0, hr0⟩ : ∃ r0, reg 4294967295 (bytesOf (ls.take k)) = r0 := ⟨_, rfl⟩
      have HR0 := hid hr0
      rw [hr0] at hlt0 ⊢
      clear hr0
      have hE : wrap64 (bits .xor .u32 IntKind.u32.max (r0 : Int)) = ((crc (bytesOf ls) : Nat) : Int) := by
        rw [u32_not r0 hlt0, crc, ← HR0.out, HK.out, List.take_of_length_le (Nat.le_refl _)]
        unfold wrap64; omega
      have HE := hid hE; clear hE
      go_wp2
      go_ret
      exact ⟨ret_int HE.out, HBW.out⟩

end Go.Proofs.Ytibnepjlddfnhaa
