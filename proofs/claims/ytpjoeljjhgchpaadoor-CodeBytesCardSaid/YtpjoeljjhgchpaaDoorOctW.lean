/- Layer 1, octet: the Writer: what stands in memory, and a contract for each method. -/
import Derived.Test.YtpjoeljjhgchpaaDoorOctA
namespace Go.Proofs.YtpjoeljjhgchpaaDoor
open Go.RowKit

/-- The pieces that a pointer leads to, the newest first: their blocks and bytes. -/
def Pcs (w : World) : Value → List (Nat × List UInt8) → Prop
  | p, [] => p = .pointer none
  | p, (g, s) :: r => p = .pointer (some ⟨g, 0, none⟩) ∧ s ≠ [] ∧ ∃ q, w.heap[g]? = some (.cells #[q, .string ⟨s.toArray⟩] 68 (0, 0)) ∧ Pcs w q r

def pcsBytes (ps : List (Nat × List UInt8)) : List UInt8 := (ps.reverse.map (·.2)).flatten

theorem pcsBytes_cons (g : Nat) (s : List UInt8) (ps : List (Nat × List UInt8)) : pcsBytes ((g, s) :: ps) = pcsBytes ps ++ s := by simp [pcsBytes]

/-- Block b holds no piece. -/
def NotPc (w : World) (b : Nat) : Prop := ∀ cs fr, w.heap[b]? ≠ some (.cells cs 68 fr)

/-- A Writer at (b, o) that has written bs. -/
def WrAt (w : World) (b o : Nat) (bs : List UInt8) : Prop :=
  ∃ p ps, w.cell? ⟨b, o, none⟩ = some p ∧ w.cell? ⟨b, o + 1, none⟩ = some (.int .i64 bs.length) ∧ w.frozen? ⟨b, o, none⟩ = false ∧ w.frozen? ⟨b, o + 1, none⟩ = false ∧
    Pcs w p ps ∧ NotPc w b ∧ bs = pcsBytes ps

theorem heap_lt {w : World} {g : Nat} {x : Obj} (h : w.heap[g]? = some x) : g < w.heap.size := (Array.getElem?_eq_some_iff.1 h).1

/-- The pieces' blocks all stand in w' as they do in w. -/
theorem Pcs.keep {w w' : World} (hk : ∀ (g : Nat) cs, w.heap[g]? = some (.cells cs 68 (0, 0)) → w'.heap[g]? = w.heap[g]?) : ∀ {ps : List (Nat × List UInt8)} {p : Value}, Pcs w p ps → Pcs w' p ps
  | [], _, h => h
  | (g, s) :: r, p, h => by
    obtain ⟨h1, hn, q, h3, h4⟩ := h
    exact ⟨h1, hn, q, (hk _ _ h3).trans h3, Pcs.keep hk h4⟩

theorem NotPc.keep {w w' : World} {b : Nat} (h : NotPc w b) (hk : w'.heap[b]? = w.heap[b]?) : NotPc w' b := fun cs fr e => h cs fr (hk ▸ e)

theorem NotPc.setCell {w : World} {b : Nat} (h : NotPc w b) (a : Addr) (v : Value) : NotPc (w.setCell a v) b := by
  intro cs fr e
  simp only [World.setCell, Array.getElem?_modify] at e
  split at e
  · rename_i hab
    subst hab
    cases hx : w.heap[a.block]? with
    | none => rw [hx] at e; cases e
    | some x =>
      rw [hx] at e
      simp only [Option.map_some, Option.some.injEq] at e
      cases x <;> simp at e
      obtain ⟨_, rfl, rfl⟩ := e
      exact h _ _ hx
  · exact h _ _ e

/-- What is turned is a block that is none of the pieces', nor the Writer's own. -/
theorem WrAt.turned {w w' : World} {b o c : Nat} {bs : List UInt8} (h : WrAt w b o bs) (hg : w.grownBy w' (some c)) (hc : c ≠ b) (hn : NotPc w c) : WrAt w' b o bs := by
  obtain ⟨p, ps, h1, h2, h3, h4, h5, h6, h7⟩ := h
  have hb : b < w.heap.size := World.block_lt_of_cell? w _ h1
  have hh : w'.heap[b]? = w.heap[b]? := hg.block b hb (by intro e; injection e with e; exact hc e.symm)
  refine ⟨p, ps, (World.cell?_of_block (w := w) (a := ⟨b, o, none⟩) hh).trans h1, (World.cell?_of_block (w := w) (a := ⟨b, o + 1, none⟩) hh).trans h2, (World.frozen?_of_block (w := w) (a := ⟨b, o, none⟩) hh).trans h3, (World.frozen?_of_block (w := w) (a := ⟨b, o + 1, none⟩) hh).trans h4, h5.keep (fun g cs e => ?_), h6.keep hh, h7⟩
  exact hg.block g (heap_lt e) (by intro e2; injection e2 with e2; subst e2; exact hn _ _ e)

theorem WrAt.below {w w' : World} {b o : Nat} {bs : List UInt8} (h : WrAt w b o bs) (hb : Below w.heap.size w w') : WrAt w' b o bs :=
  h.turned (c := w'.heap.size + b + 1 + w.heap.size) (turned_below hb _) (by omega) (fun cs fr e => by have := heap_lt e; omega)

theorem WrAt.alloc {w : World} {b o : Nat} {bs : List UInt8} (h : WrAt w b o bs) (x : Obj) : WrAt (w.alloc x) b o bs :=
  h.below ((Below.refl _ w).alloc (Nat.le_refl _) x)

theorem WrAt.notPc {w : World} {b o : Nat} {bs : List UInt8} (h : WrAt w b o bs) : NotPc w b := by obtain ⟨_, _, _, _, _, _, _, h6, _⟩ := h; exact h6

theorem WrAt.new (w : World) (t : TypeId) (ht : t ≠ 68) : WrAt (w.alloc (.cells #[.pointer none, .int .i64 0] t)) w.heap.size 0 [] := by
  refine ⟨.pointer none, [], ?_, ?_, ?_, ?_, rfl, fun cs fr e => ?_, rfl⟩
  · have := new_cells w #[.pointer none, .int .i64 0] t 0 _ rfl
    rwa [addr_add] at this
  · have := new_cells w #[.pointer none, .int .i64 0] t 1 _ rfl
    rwa [addr_add] at this
  · rw [World.frozen?_alloc_new]
  · rw [World.frozen?_alloc_new]
  · rw [heap_alloc_new] at e
    injection e with e
    injection e with _ e
    exact ht e

theorem ptr_or_none : ∀ {w : World} {p : Value} {ps : List (Nat × List UInt8)}, Pcs w p ps → ∃ a, p = .pointer a
  | _, _, [], h => ⟨_, h⟩
  | _, _, _ :: _, h => ⟨_, h.1⟩

theorem wr_add {w : World} {b o : Nat} {bs s : List UInt8} {a : Option Addr} {ps : List (Nat × List UInt8)}
    (h1 : w.cell? ⟨b, o, none⟩ = some (.pointer a)) (h2 : w.cell? ⟨b, o + 1, none⟩ = some (.int .i64 bs.length)) (h3 : w.frozen? ⟨b, o, none⟩ = false) (h4 : w.frozen? ⟨b, o + 1, none⟩ = false)
    (h5 : Pcs w (.pointer a) ps) (h6 : NotPc w b) (h7 : bs = pcsBytes ps) (hs : s ≠ []) :
    WrAt (((w.setCell ⟨b, o, none⟩ (.pointer (some ⟨w.heap.size, 0, none⟩))).setCell ⟨b, o + 1, none⟩ (.int .i64 (bs.length + s.length))).alloc (.cells #[.pointer a, .string ⟨s.toArray⟩] 68)) b o (bs ++ s) := by
  have hb : b < w.heap.size := World.block_lt_of_cell? w _ h1
  have e : ∀ (u1 u2 : Value), ((w.setCell ⟨b, o, none⟩ u1).setCell ⟨b, o + 1, none⟩ u2).heap.size = w.heap.size := by intros; simp
  refine ⟨.pointer (some ⟨w.heap.size, 0, none⟩), (w.heap.size, s) :: ps, ?_, ?_, ?_, ?_, ⟨rfl, hs, .pointer a, ?_, h5.keep fun g cs hg => ?_⟩, ?_, by rw [pcsBytes_cons, h7]⟩
  · rw [World.cell?_alloc_lt _ _ _ (by simpa using hb), World.cell?_setCell_other _ _ _ _ (by simp), World.cell?_setCell_same _ _ _ h1]
  · rw [World.cell?_alloc_lt _ _ _ (by simpa using hb), World.cell?_setCell_same (u := .int .i64 bs.length) _ _ _ (by rw [World.cell?_setCell_other _ _ _ _ (by simp)]; exact h2)]
    simp
  · rw [frozen?_alloc_cells]; simpa using h3
  · rw [frozen?_alloc_cells]; simpa using h4
  · have := heap_alloc_new ((w.setCell ⟨b, o, none⟩ (.pointer (some ⟨w.heap.size, 0, none⟩))).setCell ⟨b, o + 1, none⟩ (.int .i64 (bs.length + s.length))) (.cells #[.pointer a, .string ⟨s.toArray⟩] 68)
    rw [e] at this
    exact this
  · have hgl := heap_lt hg
    have hgb : g ≠ b := by rintro rfl; exact h6 _ _ hg
    rw [Below.heap_alloc _ _ _ (by simpa using hgl), Below.heap_setCell _ _ _ _ hgb, Below.heap_setCell _ _ _ _ hgb]
  · exact NotPc.keep (NotPc.setCell (NotPc.setCell h6 _ _) _ _) (Below.heap_alloc _ _ _ (by simpa using hb))

set_option maxHeartbeats 400000 in
theorem add_some (b o : Nat) (bs s : List UInt8) (w : World) (h : WrAt w b o bs) (hs : s ≠ []) (hl : bs.length + s.length ≤ 1000000000000) :
    Calls Tryd.prog 45 #[.pointer (some ⟨b, o, none⟩), .string ⟨s.toArray⟩] w fun e w' => e = .returned (.tuple #[]) ∧ WrAt w' b o (bs ++ s) ∧ w.grownBy w' (some b) := by
  obtain ⟨p, ps, h1, h2, h3, h4, h5, h6, h7⟩ := h
  obtain ⟨a, rfl⟩ := ptr_or_none h5
  have H5 := hid h5; have H7 := hid h7; have H6 := hid h6; clear h5 h7 h6
  have hne : s.isEmpty = false := by cases s <;> simp_all
  have hbl := World.block_lt_of_cell? w _ h1
  go_enter Tryd.func45, Tryd.ntmps45
  go_wp2
  go_end0
  refine ⟨rfl, ?_, ?_⟩
  · exact wr_add h1 h2 h3 h4 H5.out H6.out H7.out hs
  · have q1 := turned_set (p := ⟨b, o, none⟩) (turned_refl w (some b)) (.inl rfl) (.pointer (some ⟨w.heap.size, 0, none⟩))
    have q2 := turned_set (p := ⟨b, o + 1, none⟩) q1 (.inl rfl) (.int .i64 (bs.length + s.length))
    exact turned_alloc q2 _

theorem add_none (b o : Nat) (w : World) :
    Calls Tryd.prog 45 #[.pointer (some ⟨b, o, none⟩), .string ⟨#[]⟩] w fun e w' => e = .returned (.tuple #[]) ∧ w = w' := by
  go_enter Tryd.func45, Tryd.ntmps45
  go_wp2
  refine bodyPost_ret (results_none rfl _ _ _) rfl ?_
  exact ⟨rfl, rfl⟩

theorem add_any (b o : Nat) (bs s : List UInt8) (w : World) (h : WrAt w b o bs) (hl : bs.length + s.length ≤ 1000000000000) :
    Calls Tryd.prog 45 #[.pointer (some ⟨b, o, none⟩), .string ⟨s.toArray⟩] w fun e w' => e = .returned (.tuple #[]) ∧ WrAt w' b o (bs ++ s) ∧ w.grownBy w' (some b) := by
  by_cases hs : s = []
  · subst hs
    refine (add_none b o w).mono ?_
    rintro e w' ⟨rfl, rfl⟩
    exact ⟨rfl, by simpa using h, turned_refl _ _⟩
  · exact add_some b o bs s w h hs hl

set_option maxHeartbeats 400000 in
/-- Num of numbers. -/
theorem wnum_ok (b o : Nat) (bs : List UInt8) (v : Value) (zs : List Int) (w : World) (h : WrAt w b o bs) (hv : SlI w w.heap.size .i64 v zs) (hz : ∀ n ∈ zs, Num32 n) (hl : zs.length ≤ 1000000) (hbl : bs.length ≤ 100000000000) :
    Calls Tryd.prog 33 #[.pointer (some ⟨b, o, none⟩), v] w fun e w' => e = .returned (.int .i64 0) ∧ WrAt w' b o (bs ++ encs zs) ∧ w.grownBy w' (some b) := by
  have H := hid h; clear h
  have HV := hid hv
  have HZ := hid hz; clear hz
  obtain ⟨A, c, rfl, hc, hA⟩ := hv
  go_enter Tryd.func33, Tryd.ntmps33
  go_wp2_with fail
  go_loop [11] (fun i => ∃ k : Nat, k ≤ zs.length ∧ i = .int .i64 k) (fun i => zs.length - (intOf i).toNat)
  case atStart => exact ⟨0, Nat.zero_le _, rfl⟩
  case round =>
    obtain ⟨k, hk, rfl⟩ := hrel
    by_cases hlt : k < zs.length
    · obtain ⟨b1, o1, rfl, hbB, hcell⟩ := hA (by omega)
      have hc1 := hcell k hlt
      clear hcell
      obtain ⟨z, hz⟩ : ∃ z, z = zs.getD k 0 := ⟨_, rfl⟩
      have hzb : Num32 z := HZ.out z (by rw [hz, List.getD_eq_getElem?_getD, List.getElem?_eq_getElem hlt]; simp)
      obtain ⟨hz0, hz1⟩ := hzb
      rw [← hz] at hc1
      clear hz
      go_wp2_with fail
      go_round
      case rel => exact ⟨k + 1, by omega, by go_num⟩
      case measure => simp [intOf]; omega
    · obtain rfl : k = zs.length := by omega
      go_wp2_with fail
      refine (octets_any _ zs w HV.out hl).mono ?_
      rintro e w1 ⟨rfl, hb1⟩
      have hb1 := hid hb1
      go_wp2_with fail
      refine (add_any b o bs _ w1 (H.out.below hb1.out) (by rw [encs_len]; omega)).mono ?_
      rintro e w2 ⟨rfl, hw2, hg2⟩
      have hw2 := hid hw2; have hg2 := hid hg2
      go_wp2
      go_ret
      exact ⟨rfl, hw2.out, turned_trans (turned_below hb1.out _) hg2.out⟩

set_option maxHeartbeats 400000 in
/-- Num of numbers, one of which is none. -/
theorem wnum_bad (b o : Nat) (v : Value) (zs : List Int) (w : World) (hv : SlI w w.heap.size .i64 v zs) (hz : ¬ ∀ n ∈ zs, Num32 n) (hl : zs.length ≤ 1000000) :
    Calls Tryd.prog 33 #[.pointer (some ⟨b, o, none⟩), v] w fun e w' => e = .returned (.int .i64 2) ∧ w = w' := by
  have HZ := hid hz; clear hz
  obtain ⟨A, c, rfl, hc, hA⟩ := hv
  go_enter Tryd.func33, Tryd.ntmps33
  go_wp2_with fail
  go_loop [11] (fun i => ∃ k : Nat, k ≤ zs.length ∧ i = .int .i64 k ∧ ∀ n ∈ zs.take k, Num32 n) (fun i => zs.length - (intOf i).toNat)
  case atStart => exact ⟨0, Nat.zero_le _, rfl, by simp⟩
  case round =>
    obtain ⟨k, hk, rfl, hall⟩ := hrel
    have HA := hid hall; clear hall
    by_cases hlt : k < zs.length
    · obtain ⟨b1, o1, rfl, hbB, hcell⟩ := hA (by omega)
      have hc1 := hcell k hlt
      clear hcell
      obtain ⟨z, hz⟩ : ∃ z, z = zs.getD k 0 := ⟨_, rfl⟩
      rw [← hz] at hc1
      have HE := hid hz; clear hz
      by_cases hzb : Num32 z
      · have HB := hid hzb
        obtain ⟨hz0, hz1⟩ := hzb
        go_wp2_with fail
        go_round
        case rel =>
          refine ⟨k + 1, by omega, by go_num, ?_⟩
          intro n hn
          rw [List.take_succ_eq_append_getElem hlt] at hn
          rcases List.mem_append.1 hn with hn | hn
          · exact HA.out n hn
          · have e : z = zs[k] := by rw [HE.out, List.getD_eq_getElem?_getD, List.getElem?_eq_getElem hlt]; rfl
            rw [List.mem_singleton] at hn
            rw [hn, ← e]; exact HB.out
        case measure => simp [intOf]; omega
      · have hzb' : z < -2147483648 ∨ (¬ z < -2147483648 ∧ 2147483647 < z) := by unfold Num32 at hzb; omega
        clear hzb
        rcases hzb' with h1 | ⟨h1, h2⟩
        all_goals
          go_wp2_with fail
          go_ret
          exact ⟨rfl, rfl⟩
    · exfalso
      obtain rfl : k = zs.length := by omega
      exact HZ.out (by simpa using HA.out)

end Go.Proofs.YtpjoeljjhgchpaaDoor
