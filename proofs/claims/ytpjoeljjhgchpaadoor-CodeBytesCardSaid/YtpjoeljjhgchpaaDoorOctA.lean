/- Layer 1, octet: 'octets': the numbers' bytes. -/
import Derived.Test.YtpjoeljjhgchpaaDoorNum
namespace Go.Proofs.YtpjoeljjhgchpaaDoor
open Go.RowKit

set_option maxHeartbeats 400000 in
theorem octets_any (v : Value) (zs : List Int) (w : World) (hv : SlI w w.heap.size .i64 v zs) (hl : zs.length ≤ 1000000) :
    Calls Tryd.prog 46 #[v] w fun e w' => e = .returned (.string ⟨(encs zs).toArray⟩) ∧ Below w.heap.size w w' := by
  obtain ⟨i0, hi, hz0, hz1, hz2⟩ := info_parts u8info
  obtain ⟨A, c, rfl, hc, hA⟩ := hv
  go_enter Tryd.func46, Tryd.ntmps46
  go_wp2_with (at_make; refine wpList_make_own _ rfl _ _ 66 rfl w.heap.size 5 i0 (.int .u8 0) 1 Tryd.underlying66 hi hz0 hz1 .i64 .i64 _ (4 * zs.length) rfl rfl (by omega) (by rw [hz2]; omega) (by unfold maxLen; omega) (Nat.le_refl _) ?_; intro w1 hown hgrow)
  go_loopw [3, 12] (fun b i wr => ∃ k : Nat, k ≤ zs.length ∧ i = .int .i64 k ∧ b = .slice (some ⟨w.heap.size, 0, none⟩) (4 * k) (4 * zs.length) ∧ wr.ownsRow w.heap.size 5 1 b (4 * k) (u8s (encs (zs.take k))) ∧ Below w.heap.size w wr)
    (fun _ i _ => zs.length - (intOf i).toNat)
  case atStart => exact ⟨0, Nat.zero_le _, rfl, rfl, hown, (Below.refl _ _).grown hgrow (Nat.le_refl _) (by simp)⟩
  case round =>
    obtain ⟨k, hk, rfl, rfl, hown, hb⟩ := hrel
    by_cases hlt : k < zs.length
    · obtain ⟨b, o, rfl, hbB, hcell⟩ := hA (by omega)
      have hc1 : wr.cell? ⟨b, o + k, none⟩ = some (.int .i64 (zs.getD k 0)) := (hb.cell (p := ⟨b, o + k, none⟩) hbB).trans (hcell k hlt)
      clear hcell
      obtain ⟨z, hz⟩ : ∃ z, z = zs.getD k 0 := ⟨_, rfl⟩
      rw [← hz] at hc1
      have HZ := hid hz; clear hz
      have hcs : ∀ j u, (u8s (enc32 z))[j]? = some u → (wr.alloc (.cells #[.int .u8 (z / 16777216 % 256), .int .u8 (z / 65536 % 256), .int .u8 (z / 256 % 256), .int .u8 (z % 256)] 5)).cell? ((⟨wr.heap.size, 0, none⟩ : Addr).add j) = some u := by
        intro j u hu
        rw [enc32_cells] at hu
        exact new_cells _ _ _ j u (by simpa using hu)
      have HCS := hid hcs; clear hcs
      have hgr := hb.size
      go_wp2_with (at_builtin; refine wpList_append_fits _ rfl _ _ 66 rfl w.heap.size 5 i0 1 Tryd.underlying66 hi hz1 _ _ _ _ rfl (hown.alloc _) ⟨wr.heap.size, 0, none⟩ 4 4 (u8s (enc32 z)) rfl rfl HCS.out (u8s_one _) (by omega) ?_; intro w2 hown2 hg2)
      go_roundw
      case rel =>
        refine ⟨k + 1, by omega, by go_num, rfl, ?_, (hb.alloc hgr _).grown hg2 (by simp; omega) (by intro k hk; cases hk; exact Nat.le_refl _)⟩
        rw [encs_snoc zs k hlt, u8s_append, ← HZ.out]
        exact hown2
      case measure => simp [intOf]; omega
    · obtain rfl : k = zs.length := by omega
      rw [List.take_of_length_le (Nat.le_refl _)] at hown
      have hconv := run_convert_bytes_arg (P := Tryd.prog) wr 66 5 Tryd.underlying66 Tryd.underlying5 w.heap.size 0 (4 * zs.length) (4 * zs.length)
        ((encs zs).map fun b => (b.toNat : Int)) (by simp [encs_len]) (fun i hi => by
          rw [hown.cellAt _ (by omega)]
          simp [u8s, encs_len, hi, List.getD_eq_getElem?_getD]) 9 Tryd.underlying9
      go_wp2
      go_ret
      exact ⟨ret_sn _, hb⟩

end Go.Proofs.YtpjoeljjhgchpaaDoor
