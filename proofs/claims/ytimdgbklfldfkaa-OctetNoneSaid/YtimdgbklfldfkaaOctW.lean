/- Layer 1, octet: the Writer: what stands in memory, and a contract for each method. -/
import Derived.Test.YtimdgbklfldfkaaOctA
namespace Go.Proofs.Ytimdgbklfldfkaa
open Go.RowKit

/-- The pieces that a pointer leads to, the newest first: their blocks and bytes. -/
def Pcs (w : World) : Value → List (Nat × List UInt8) → Prop
  | p, [] => p = .pointer none
  | p, (g, s) :: r => p = .pointer (some ⟨g, 0, none⟩) ∧ s ≠ [] ∧ w.cell? ⟨g, 1, none⟩ = some (.string ⟨s.toArray⟩) ∧ ∃ q, w.cell? ⟨g, 0, none⟩ = some q ∧ Pcs w q r

def pcsBytes (ps : List (Nat × List UInt8)) : List UInt8 := (ps.reverse.map (·.2)).flatten

theorem pcsBytes_cons (g : Nat) (s : List UInt8) (ps : List (Nat × List UInt8)) : pcsBytes ((g, s) :: ps) = pcsBytes ps ++ s := by simp [pcsBytes]

/-- A Writer at (b, o) that has written bs. -/
def WrAt (w : World) (b o : Nat) (bs : List UInt8) : Prop :=
  ∃ p ps, w.cell? ⟨b, o, none⟩ = some p ∧ w.cell? ⟨b, o + 1, none⟩ = some (.int .i64 bs.length) ∧ w.frozen? ⟨b, o, none⟩ = false ∧ w.frozen? ⟨b, o + 1, none⟩ = false ∧
    Pcs w p ps ∧ (∀ x ∈ ps, x.1 ≠ b) ∧ bs = pcsBytes ps

theorem Pcs.keep {w w' : World} : ∀ {ps : List (Nat × List UInt8)} {p : Value}, Pcs w p ps → (∀ x ∈ ps, ∀ i, w'.cell? ⟨x.1, i, none⟩ = w.cell? ⟨x.1, i, none⟩) → Pcs w' p ps
  | [], _, h, _ => h
  | (g, s) :: r, p, h, hk => by
    obtain ⟨h1, hn, h2, q, h3, h4⟩ := h
    exact ⟨h1, hn, (hk (g, s) (by simp) 1).trans h2, q, (hk (g, s) (by simp) 0).trans h3, Pcs.keep h4 fun x hx => hk x (by simp [hx])⟩

theorem Pcs.lt {w : World} : ∀ {ps : List (Nat × List UInt8)} {p : Value}, Pcs w p ps → ∀ x ∈ ps, x.1 < w.heap.size
  | [], _, _, x, hx => by simp at hx
  | (g, s) :: r, p, h, x, hx => by
    obtain ⟨_, _, h2, q, _, h4⟩ := h
    rcases List.mem_cons.1 hx with rfl | hx
    · exact World.block_lt_of_cell? w _ h2
    · exact Pcs.lt h4 x hx

theorem WrAt.keep {w w' : World} {b o : Nat} {bs : List UInt8} (h : WrAt w b o bs) (hk : ∀ g i, g < w.heap.size → w'.cell? ⟨g, i, none⟩ = w.cell? ⟨g, i, none⟩)
    (hf : ∀ g i, g < w.heap.size → w'.frozen? ⟨g, i, none⟩ = w.frozen? ⟨g, i, none⟩) : WrAt w' b o bs := by
  obtain ⟨p, ps, h1, h2, h3, h4, h5, h6, h7⟩ := h
  have hb : b < w.heap.size := World.block_lt_of_cell? w _ h1
  exact ⟨p, ps, (hk b o hb).trans h1, (hk b _ hb).trans h2, (hf b _ hb).trans h3, (hf b _ hb).trans h4, h5.keep fun x hx i => hk _ _ (h5.lt x hx), h6, h7⟩

theorem WrAt.below {w w' : World} {b o : Nat} {bs : List UInt8} (h : WrAt w b o bs) (hb : Below w.heap.size w w') : WrAt w' b o bs :=
  h.keep (fun g i hg => hb.cell (p := ⟨g, i, none⟩) hg) (fun g i hg => hb.frozen (p := ⟨g, i, none⟩) hg)

theorem WrAt.alloc {w : World} {b o : Nat} {bs : List UInt8} (h : WrAt w b o bs) (x : Obj) : WrAt (w.alloc x) b o bs :=
  h.below ((Below.refl _ w).alloc (Nat.le_refl _) x)

theorem ptr_or_none : ∀ {w : World} {p : Value} {ps : List (Nat × List UInt8)}, Pcs w p ps → ∃ a, p = .pointer a
  | _, _, [], h => ⟨_, h⟩
  | _, _, _ :: _, h => ⟨_, h.1⟩

theorem wr_add {w : World} {b o : Nat} {bs s : List UInt8} {a : Option Addr} {ps : List (Nat × List UInt8)} (t : TypeId)
    (h1 : w.cell? ⟨b, o, none⟩ = some (.pointer a)) (h2 : w.cell? ⟨b, o + 1, none⟩ = some (.int .i64 bs.length)) (h3 : w.frozen? ⟨b, o, none⟩ = false) (h4 : w.frozen? ⟨b, o + 1, none⟩ = false)
    (h5 : Pcs w (.pointer a) ps) (h6 : ∀ x ∈ ps, x.1 ≠ b) (h7 : bs = pcsBytes ps) (hs : s ≠ []) :
    WrAt (((w.setCell ⟨b, o, none⟩ (.pointer (some ⟨w.heap.size, 0, none⟩))).setCell ⟨b, o + 1, none⟩ (.int .i64 (bs.length + s.length))).alloc (.cells #[.pointer a, .string ⟨s.toArray⟩] t)) b o (bs ++ s) := by
  have hb : b < w.heap.size := World.block_lt_of_cell? w _ h1
  have e : ∀ (u1 u2 : Value), ((w.setCell ⟨b, o, none⟩ u1).setCell ⟨b, o + 1, none⟩ u2).heap.size = w.heap.size := by intros; simp
  have hold : ∀ (u1 u2 : Value) g i, g ≠ b → g < w.heap.size →
      (((w.setCell ⟨b, o, none⟩ u1).setCell ⟨b, o + 1, none⟩ u2).alloc (.cells #[.pointer a, .string ⟨s.toArray⟩] t)).cell? ⟨g, i, none⟩ = w.cell? ⟨g, i, none⟩ := by
    intro u1 u2 g i hg hl
    rw [World.cell?_alloc_lt _ _ _ (by simpa using hl), World.cell?_setCell_other _ _ _ _ (by simp only [ne_eq, Addr.mk.injEq, not_and]; omega), World.cell?_setCell_other _ _ _ _ (by simp only [ne_eq, Addr.mk.injEq, not_and]; omega)]
  have hp1 : b ≠ w.heap.size := by omega
  refine ⟨.pointer (some ⟨w.heap.size, 0, none⟩), (w.heap.size, s) :: ps, ?_, ?_, ?_, ?_, ⟨rfl, hs, ?_, .pointer a, ?_, h5.keep fun x hx i => hold _ _ _ _ (h6 x hx) (h5.lt x hx)⟩, ?_, by rw [pcsBytes_cons, h7]⟩
  · rw [World.cell?_alloc_lt _ _ _ (by simpa using hb), World.cell?_setCell_other _ _ _ _ (by simp), World.cell?_setCell_same _ _ _ h1]
  · rw [World.cell?_alloc_lt _ _ _ (by simpa using hb), World.cell?_setCell_same (u := .int .i64 bs.length) _ _ _ (by rw [World.cell?_setCell_other _ _ _ _ (by simp)]; exact h2)]
    simp
  · rw [frozen?_alloc_cells]; simpa using h3
  · rw [frozen?_alloc_cells]; simpa using h4
  · have := new_cells ((w.setCell ⟨b, o, none⟩ (.pointer (some ⟨w.heap.size, 0, none⟩))).setCell ⟨b, o + 1, none⟩ (.int .i64 (bs.length + s.length))) #[.pointer a, .string ⟨s.toArray⟩] t 1 _ rfl
    rw [addr_add, e] at this
    exact this
  · have := new_cells ((w.setCell ⟨b, o, none⟩ (.pointer (some ⟨w.heap.size, 0, none⟩))).setCell ⟨b, o + 1, none⟩ (.int .i64 (bs.length + s.length))) #[.pointer a, .string ⟨s.toArray⟩] t 0 _ rfl
    rw [addr_add, e] at this
    exact this
  · intro x hx
    rcases List.mem_cons.1 hx with rfl | hx
    · simp; omega
    · exact h6 x hx

set_option maxHeartbeats 400000 in
theorem add_some (b o : Nat) (bs s : List UInt8) (w : World) (h : WrAt w b o bs) (hs : s ≠ []) (hl : bs.length + s.length ≤ 1000000000000) :
    Calls Try.prog 21 #[.pointer (some ⟨b, o, none⟩), .string ⟨s.toArray⟩] w fun e w' => e = .returned (.tuple #[]) ∧ WrAt w' b o (bs ++ s) ∧ w.grownBy w' (some b) := by
  obtain ⟨p, ps, h1, h2, h3, h4, h5, h6, h7⟩ := h
  obtain ⟨a, rfl⟩ := ptr_or_none h5
  have H5 := hid h5; have H7 := hid h7; have H6 := hid h6; clear h5 h7 h6
  have hne : s.isEmpty = false := by cases s <;> simp_all
  have hbl := World.block_lt_of_cell? w _ h1
  go_enter Try.func21, Try.ntmps21
  go_wp2
  go_end0
  refine ⟨rfl, ?_, ?_⟩
  · exact wr_add _ h1 h2 h3 h4 H5.out H6.out H7.out hs
  · have q1 := turned_set (p := ⟨b, o, none⟩) (turned_refl w (some b)) (.inl rfl) (.pointer (some ⟨w.heap.size, 0, none⟩))
    have q2 := turned_set (p := ⟨b, o + 1, none⟩) q1 (.inl rfl) (.int .i64 (bs.length + s.length))
    exact turned_alloc q2 _

theorem add_none (b o : Nat) (w : World) :
    Calls Try.prog 21 #[.pointer (some ⟨b, o, none⟩), .string ⟨#[]⟩] w fun e w' => e = .returned (.tuple #[]) ∧ w = w' := by
  go_enter Try.func21, Try.ntmps21
  go_wp2
  refine bodyPost_ret (results_none rfl _ _ _) rfl ?_
  exact ⟨rfl, rfl⟩

theorem add_any (b o : Nat) (bs s : List UInt8) (w : World) (h : WrAt w b o bs) (hl : bs.length + s.length ≤ 1000000000000) :
    Calls Try.prog 21 #[.pointer (some ⟨b, o, none⟩), .string ⟨s.toArray⟩] w fun e w' => e = .returned (.tuple #[]) ∧ WrAt w' b o (bs ++ s) ∧ w.grownBy w' (some b) := by
  by_cases hs : s = []
  · subst hs
    refine (add_none b o w).mono ?_
    rintro e w' ⟨rfl, rfl⟩
    exact ⟨rfl, by simpa using h, turned_refl _ _⟩
  · exact add_some b o bs s w h hs hl

set_option maxHeartbeats 400000 in
/-- Text of a text that isn't too long. -/
theorem wtext_any (b o : Nat) (bs s : List UInt8) (w : World) (h : WrAt w b o bs) (hs : s.length ≤ 1048576) (hl : bs.length ≤ 100000000000) :
    Calls Try.prog 12 #[.pointer (some ⟨b, o, none⟩), .string ⟨s.toArray⟩] w fun e w' => e = .returned (.int .i64 0) ∧ WrAt w' b o (bs ++ (enc32 s.length ++ s)) ∧ w.grownBy w' (some b) := by
  have H := hid h; clear h
  go_enter Try.func12, Try.ntmps12
  go_wp2_with fail
  refine (octets_any _ [(s.length : Int)] _ (SlI.one w .i64 (s.length : Int) _) (by simp)).mono ?_
  rintro e w1 ⟨rfl, hb1⟩
  have hc : ∀ x : List UInt8, (⟨x.toArray⟩ ++ ⟨s.toArray⟩ : ByteArray) = ⟨(x ++ s).toArray⟩ := fun x => by
    apply ByteArray.ext; simp
  have hel : (encs [(s.length : Int)]).length = 4 := rfl
  go_wp2_with fail
  have q1 : Below w.heap.size w w1 := ((Below.refl _ w).alloc (Nat.le_refl _) (.cells #[.int .i64 s.length] 3)).trans (hb1.mono (by simp))
  refine (add_any b o bs _ w1 (H.out.below q1) (by simp; omega)).mono ?_
  rintro e w2 ⟨rfl, hw2, hg2⟩
  have hw2 := hid hw2
  go_wp2
  go_ret
  refine ⟨rfl, ?_, ?_⟩
  · have := hw2.out; simpa [encs] using this
  · exact turned_trans (turned_below q1 _) hg2

theorem wtext_long (b o : Nat) (s : List UInt8) (w : World) (hs : 1048576 < s.length) (hl : s.length ≤ 140737488355328) :
    Calls Try.prog 12 #[.pointer (some ⟨b, o, none⟩), .string ⟨s.toArray⟩] w fun e w' => e = .returned (.int .i64 6) ∧ w = w' := by
  go_enter Try.func12, Try.ntmps12
  go_wp2
  go_ret
  exact ⟨rfl, rfl⟩

def Num32 (n : Int) : Prop := -2147483648 ≤ n ∧ n ≤ 2147483647
instance (n : Int) : Decidable (Num32 n) := by unfold Num32; infer_instance

set_option maxHeartbeats 400000 in
/-- Num of numbers. -/
theorem wnum_ok (b o : Nat) (bs : List UInt8) (v : Value) (zs : List Int) (w : World) (h : WrAt w b o bs) (hv : SlI w w.heap.size .i64 v zs) (hz : ∀ n ∈ zs, Num32 n) (hl : zs.length ≤ 1000000) (hbl : bs.length ≤ 100000000000) :
    Calls Try.prog 10 #[.pointer (some ⟨b, o, none⟩), v] w fun e w' => e = .returned (.int .i64 0) ∧ WrAt w' b o (bs ++ encs zs) ∧ w.grownBy w' (some b) := by
  have H := hid h; clear h
  have HV := hid hv
  have HZ := hid hz; clear hz
  obtain ⟨A, c, rfl, hc, hA⟩ := hv
  go_enter Try.func10, Try.ntmps10
  go_wp2_with fail
  go_loop [11] (fun i => ∃ k : Nat, k ≤ zs.length ∧ i = .int .i64 k) (fun i => zs.length - (intOf i).toNat)
  case atStart => exact ⟨0, Nat.zero_le _, rfl⟩
  case round =>
    obtain ⟨k, hk, rfl⟩ := hrel
    by_cases hlt : k < zs.length
    · obtain ⟨b1, o1, rfl, hbB, hcell⟩ := hA (by omega)
      have hc1 := hcell k hlt
      clear hcell
      obtain ⟨z, hz⟩ : ∃ z, z = zs.getD k 0 := ⟨_, rfl⟩
      have hzb : Num32 z := HZ.out z (by rw [hz, List.getD_eq_getElem?_getD, List.getElem?_eq_getElem hlt]; simp)
      obtain ⟨hz0, hz1⟩ := hzb
      rw [← hz] at hc1
      clear hz
      go_wp2_with fail
      go_round
      case rel => exact ⟨k + 1, by omega, by go_num⟩
      case measure => simp [intOf]; omega
    · obtain rfl : k = zs.length := by omega
      go_wp2_with fail
      refine (octets_any _ zs w HV.out hl).mono ?_
      rintro e w1 ⟨rfl, hb1⟩
      have hb1 := hid hb1
      go_wp2_with fail
      refine (add_any b o bs _ w1 (H.out.below hb1.out) (by rw [encs_len]; omega)).mono ?_
      rintro e w2 ⟨rfl, hw2, hg2⟩
      have hw2 := hid hw2; have hg2 := hid hg2
      go_wp2
      go_ret
      exact ⟨rfl, hw2.out, turned_trans (turned_below hb1.out _) hg2.out⟩

set_option maxHeartbeats 400000 in
/-- Num of numbers, one of which is none. -/
theorem wnum_bad (b o : Nat) (v : Value) (zs : List Int) (w : World) (hv : SlI w w.heap.size .i64 v zs) (hz : ¬ ∀ n ∈ zs, Num32 n) (hl : zs.length ≤ 1000000) :
    Calls Try.prog 10 #[.pointer (some ⟨b, o, none⟩), v] w fun e w' => e = .returned (.int .i64 2) ∧ w = w' := by
  have HZ := hid hz; clear hz
  obtain ⟨A, c, rfl, hc, hA⟩ := hv
  go_enter Try.func10, Try.ntmps10
  go_wp2_with fail
  go_loop [11] (fun i => ∃ k : Nat, k ≤ zs.length ∧ i = .int .i64 k ∧ ∀ n ∈ zs.take k, Num32 n) (fun i => zs.length - (intOf i).toNat)
  case atStart => exact ⟨0, Nat.zero_le _, rfl, by simp⟩
  case round =>
    obtain ⟨k, hk, rfl, hall⟩ := hrel
    have HA := hid hall; clear hall
    by_cases hlt : k < zs.length
    · obtain ⟨b1, o1, rfl, hbB, hcell⟩ := hA (by omega)
      have hc1 := hcell k hlt
      clear hcell
      obtain ⟨z, hz⟩ : ∃ z, z = zs.getD k 0 := ⟨_, rfl⟩
      rw [← hz] at hc1
      have HE := hid hz; clear hz
      by_cases hzb : Num32 z
      · have HB := hid hzb
        obtain ⟨hz0, hz1⟩ := hzb
        go_wp2_with fail
        go_round
        case rel =>
          refine ⟨k + 1, by omega, by go_num, ?_⟩
          intro n hn
          rw [List.take_succ_eq_append_getElem hlt] at hn
          rcases List.mem_append.1 hn with hn | hn
          · exact HA.out n hn
          · have e : z = zs[k] := by rw [HE.out, List.getD_eq_getElem?_getD, List.getElem?_eq_getElem hlt]; rfl
            rw [List.mem_singleton] at hn
            rw [hn, ← e]; exact HB.out
        case measure => simp [intOf]; omega
      · have hzb' : z < -2147483648 ∨ (¬ z < -2147483648 ∧ 2147483647 < z) := by unfold Num32 at hzb; omega
        clear hzb
        rcases hzb' with h1 | ⟨h1, h2⟩
        all_goals
          go_wp2_with fail
          go_ret
          exact ⟨rfl, rfl⟩
    · exfalso
      obtain rfl : k = zs.length := by omega
      exact HZ.out (by simpa using HA.out)

end Go.Proofs.Ytimdgbklfldfkaa
