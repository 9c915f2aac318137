/- Layer 1, octet: Out: all that was written. -/
import Derived.Test.YtpjoeljjhgchpaaDoorOctW
import Derived.Lib.LazyBuf
import Derived.Deep.RegionLaw
import Derived.Deep.MidRow
namespace Go.Proofs.YtpjoeljjhgchpaaDoor
open Go.RowKit

theorem u8one (w : World) : (Go.sizeOf 5).run Tryd.prog w = .ok 1 w := by kernel_rfl

/-- At the head of a round: the pieces r are still to be copied, they take the first n places; the others are filled. -/
structure OutRel (w wr : World) (bs : List UInt8) (r : List (Nat × List UInt8)) (a : Option Addr) (n : Nat) : Prop where
  pcs : Pcs w (.pointer a) r
  num : (pcsBytes r).length = n
  rest : ∃ t, bs = pcsBytes r ++ t
  below : Below w.heap.size w wr
  there : ∀ j, j < bs.length → (wr.cell? ⟨w.heap.size, j, none⟩).isSome = true ∧ wr.frozen? ⟨w.heap.size, j, none⟩ = false
  cells : ∀ j, n ≤ j → j < bs.length → wr.cell? ⟨w.heap.size, j, none⟩ = some (.int .u8 ((bs.map fun b => (b.toNat : Int)).getD j 0))

theorem OutRel.start {w w1 : World} {bs : List UInt8} {ps : List (Nat × List UInt8)} {a : Option Addr} (h : Pcs w (.pointer a) ps) (hb : bs = pcsBytes ps) (hw : Below w.heap.size w w1)
    (hs : ∀ j, j < bs.length → (w1.cell? ⟨w.heap.size, j, none⟩).isSome = true ∧ w1.frozen? ⟨w.heap.size, j, none⟩ = false) : OutRel w w1 bs ps a bs.length :=
  ⟨h, by rw [hb], ⟨[], by simpa using hb⟩, hw, hs, fun j h1 h2 => by omega⟩

theorem OutRel.bound {w wr : World} {bs : List UInt8} {r : List (Nat × List UInt8)} {a : Option Addr} {n : Nat} (h : OutRel w wr bs r a n) : n ≤ bs.length := by
  obtain ⟨t, ht⟩ := h.rest
  rw [← h.num, ht, List.length_append]; omega

theorem OutRel.drew {w wr : World} {bs : List UInt8} {r : List (Nat × List UInt8)} {a : Option Addr} {n : Nat} (h : OutRel w wr bs r a n) : OutRel w wr.drew bs r a n :=
  ⟨h.pcs, h.num, h.rest, h.below.drew, h.there, h.cells⟩

theorem OutRel.done {w wr : World} {bs : List UInt8} {a : Option Addr} {n : Nat} (h : OutRel w wr bs [] a n) : a = none ∧ n = 0 := by
  have h1 := h.pcs
  have h2 := h.num
  simp only [Pcs] at h1
  injection h1 with h1
  exact ⟨h1, by simpa [pcsBytes] using h2.symm⟩

theorem OutRel.next {w wr : World} {bs s : List UInt8} {g : Nat} {r : List (Nat × List UInt8)} {a : Option Addr} {n : Nat} (h : OutRel w wr bs ((g, s) :: r) a n) :
    ∃ a2, a = some ⟨g, 0, none⟩ ∧ n = (pcsBytes r).length + s.length ∧ 0 < s.length ∧ wr.cell? ⟨g, 0, none⟩ = some (.pointer a2) ∧ wr.cell? ⟨g, 1, none⟩ = some (.string ⟨s.toArray⟩) ∧ g < w.heap.size := by
  obtain ⟨h1, hn, q, h0, h4⟩ := h.pcs
  have h3 : w.cell? ⟨g, 0, none⟩ = some q := by rw [cell_of_row w g 0 _ _ _ h0]; rfl
  have h2 : w.cell? ⟨g, 1, none⟩ = some (.string ⟨s.toArray⟩) := by rw [cell_of_row w g 1 _ _ _ h0]; rfl
  injection h1 with h1
  obtain ⟨a2, rfl⟩ := ptr_or_none h4
  have hg : g < w.heap.size := World.block_lt_of_cell? w _ h2
  refine ⟨a2, h1, ?_, List.length_pos_iff.2 hn, (h.below.cell (p := ⟨g, 0, none⟩) hg).trans h3, (h.below.cell (p := ⟨g, 1, none⟩) hg).trans h2, hg⟩
  rw [← h.num, pcsBytes_cons, List.length_append]

theorem OutRel.step {w wr : World} {bs s : List UInt8} {g : Nat} {r : List (Nat × List UInt8)} {a a2 : Option Addr} {n m : Nat} (h : OutRel w wr bs ((g, s) :: r) a n) (ha : wr.cell? ⟨g, 0, none⟩ = some (.pointer a2))
    (hm : m = (pcsBytes r).length) : OutRel w (wr.setCells w.heap.size m (u8s s)) bs r a2 m := by
  obtain ⟨_, _, hn, h0, _, _, hg⟩ := h.next
  obtain ⟨_, _, q, hq, h4⟩ := h.pcs
  have h3 : w.cell? ⟨g, 0, none⟩ = some q := by rw [cell_of_row w g 0 _ _ _ hq]; rfl
  obtain ⟨t, ht⟩ := h.rest
  rw [pcsBytes_cons, List.append_assoc] at ht
  have e : q = .pointer a2 := by
    have := (h.below.cell (p := ⟨g, 0, none⟩) hg).symm.trans ha
    rw [h3] at this; injection this
  subst e
  subst hm
  have hlen : bs.length = (pcsBytes r).length + (s.length + t.length) := by rw [ht]; simp
  have hthere : ∀ j, j < (u8s s).length → (wr.cell? ⟨w.heap.size, (pcsBytes r).length + j, none⟩).isSome = true := fun j hj => (h.there _ (by rw [u8s_length] at hj; omega)).1
  refine ⟨h4, rfl, ⟨s ++ t, ht⟩, below_setCells (Nat.le_refl _) _ _ _ h.below, fun j hj => ⟨?_, ?_⟩, fun j h1 h2 => ?_⟩
  · exact World.isSome_setCells _ _ _ _ _ (h.there j hj).1
  · rw [World.frozen?_setCells]; exact (h.there j hj).2
  · by_cases hj : j < n
    · have hj' : j - (pcsBytes r).length < (u8s s).length := by rw [u8s_length]; omega
      have := World.cell?_setCells_in w.heap.size (u8s s) (pcsBytes r).length wr hthere (j - (pcsBytes r).length) hj'
      rw [show (pcsBytes r).length + (j - (pcsBytes r).length) = j by omega] at this
      have hjs : j - (pcsBytes r).length < s.length := by rw [u8s_length] at hj'; exact hj'
      have e2 : bs[j]? = some s[j - (pcsBytes r).length] := by rw [ht, List.getElem?_append_right h1, List.getElem?_append_left hjs, List.getElem?_eq_getElem hjs]
      rw [this]
      simp [u8s, List.getD_eq_getElem?_getD, e2]
    · rw [World.cell?_setCells_out _ _ _ _ _ (fun _ _ => by right; rw [u8s_length]; simp; omega)]
      exact h.cells j (by omega) h2

set_option maxHeartbeats 400000 in
theorem out_any (b o : Nat) (bs : List UInt8) (w : World) (h : WrAt w b o bs) (hl : bs.length ≤ 100000000000) :
    Calls Tryd.prog 16 #[.pointer (some ⟨b, o, none⟩)] w fun e w' => e = .returned (.string ⟨bs.toArray⟩) ∧ Below w.heap.size w w' := by
  obtain ⟨p, ps, h1, h2, h3, h4, h5, h6, h7⟩ := h
  obtain ⟨a, rfl⟩ := ptr_or_none h5
  have H5 := hid h5; have H7 := hid h7; have H6 := hid h6; clear h5 h7 h6 h3 h4
  have hbl := World.block_lt_of_cell? w _ h1
  obtain ⟨i0, hi, hz0, hz1, hz2⟩ := info_parts u8info
  go_enter Tryd.func16, Tryd.ntmps16
  go_wp2_with (at_make; go_must (refine wpList_make_full _ rfl _ _ 66 rfl w.heap.size 5 i0 (.int .u8 0) 1 Tryd.underlying66 hi hz0 hz1 .i64 .i64 _ _ bs.length rfl rfl rfl rfl (by rw [hz2]; omega) (by unfold maxLen; omega) (Nat.le_refl _) ?_); intro w1 hown hgrow; have h1' := hgrow.cell h1 (by simp); have h2' := hgrow.cell h2 (by simp))
  have hbw : Below w.heap.size w w1 := (Below.refl _ _).grown hgrow (Nat.le_refl _) (by simp)
  have hsm : ∀ j, j < bs.length → (w1.cell? ⟨w.heap.size, j, none⟩).isSome = true ∧ w1.frozen? ⟨w.heap.size, j, none⟩ = false := fun j hj => by
    rw [hown.cellAt j (by omega), hown.frozenAt j]
    simp [size_madeCells, hj]
  have HS := hid hsm; have HBW := hid hbw; clear hsm hown hgrow hbw
  go_loopw [5, 4] (fun p e wr => ∃ (r : List (Nat × List UInt8)) (a' : Option Addr) (n : Nat), p = .pointer a' ∧ e = .int .i64 n ∧ OutRel w wr bs r a' n) (fun _ e _ => (intOf e).toNat)
  case atStart =>
    exact ⟨ps, a, bs.length, rfl, rfl, OutRel.start H5.out H7.out HBW.out HS.out⟩
  case round =>
    obtain ⟨r, a', n, rfl, rfl, hR⟩ := hrel
    have HR := hid hR; clear hR
    match r, HR with
    | [], HR =>
      obtain rfl : a' = none := HR.out.done.1
      have hn := HR.out.done.2
      have hconv := run_convert_bytes_arg (P := Tryd.prog) wr 66 5 Tryd.underlying66 Tryd.underlying5 w.heap.size 0 bs.length bs.length
        (bs.map fun b => (b.toNat : Int)) (by simp) (fun i hi => by
          rw [Nat.zero_add, HR.out.cells i (by rw [hn]; omega) hi]) 9 Tryd.underlying9
      clear hn
      go_wp2
      go_ret
      exact ⟨ret_sn _, HR.out.below⟩
    | (g, s) :: r, HR =>
      obtain ⟨a2, hp, hn1, hn2, hc0, hc1, hgl⟩ := HR.out.next
      obtain rfl := hp
      have hnb := HR.out.bound
      obtain ⟨m, hm, rfl⟩ : ∃ m, m = (pcsBytes r).length ∧ n = m + s.length := ⟨_, rfl, hn1⟩
      have HM := hid hm; clear hm hn1
      have hst : ∀ j, j < (⟨s.toArray⟩ : ByteArray).size → (wr.cell? ⟨w.heap.size, m + j, none⟩).isSome = true ∧ wr.frozen? ⟨w.heap.size, m + j, none⟩ = false := fun j hj => HR.out.there _ (by have : j < s.length := hj; omega)
      have HST := hid hst; clear hst
      have hle : m ≤ bs.length := by omega
      have hne : ¬ bs.length = m := by omega
      go_wp2_with fail
      go_region_law (refine step_copy_string rfl (.tmp 36) (.tmp 40) 66 9 rfl 5 Tryd.underlying66 u8one w.heap.size m (bs.length - m) (bs.length - m) (by simp [Act.eval]) ⟨s.toArray⟩ (by simp [Act.eval]) (by show s.length ≤ _; omega) (fun j hj => (HST.out j hj).1) (fun j hj => (HST.out j hj).2) ?_)
      all_goals
        have hc3 : (wr.drew.setCells w.heap.size m (List.map (fun x => Value.int .u8 (x.toNat : Int)) s)).cell? ⟨g, 0, none⟩ = some (.pointer a2) := by
          rw [World.cell?_setCells_out _ _ _ _ _ (fun h _ => by simp at h; omega)]; exact hc0
        go_wp2_with fail
        go_roundw
        case rel =>
          have R2 := HR.out.drew.step (a2 := a2) (m := m) hc0 HM.out
          exact ⟨r, a2, m, rfl, rfl, R2⟩
        case measure => simp [intOf]; omega

end Go.Proofs.YtpjoeljjhgchpaaDoor
