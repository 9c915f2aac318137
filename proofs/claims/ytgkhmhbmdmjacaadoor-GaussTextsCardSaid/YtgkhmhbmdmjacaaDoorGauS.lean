/- Layer 3, gauss: Text: its contract. -/
import Derived.Test.YtgkhmhbmdmjacaaDoorGauT
import Derived.Test.YtgkhmhbmdmjacaaDoorGauV
import Derived.Test.YtgkhmhbmdmjacaaDoorShelf
import Derived.Deep.RegionHeld3
namespace Go.Proofs.YtgkhmhbmdmjacaaDoor
open Go.RowKit
set_option linter.unusedVariables false

theorem size_mk' (l : List UInt8) : (⟨l.toArray⟩ : ByteArray).size = l.length := by show l.toArray.size = _; simp

/-- The table of powers holds what its text lays. -/
def Tab (w : World) : Prop := Lib.TabIs Tryd.prog w "internal/strconv.uint64pow10" .u64 Lib.pow10Tab

theorem gPow : Tryd.prog.globalNamed "internal/strconv.uint64pow10" = some 3 := by kernel_rfl

theorem var_stays {w w' : World} {n : String} {g : Nat} {cs : Array Value} (h : w.var? Tryd.prog n = some cs) (hg : Tryd.prog.globalNamed n = some g) (hb : Below w.heap.size w w') : w'.var? Tryd.prog n = some cs := by
  unfold World.var? at h ⊢
  rw [hg] at h ⊢
  simp only [Option.bind_some] at h ⊢
  have hlt : g < w.heap.size := by
    rcases Nat.lt_or_ge g w.heap.size with h1 | h1
    · exact h1
    · rw [Array.getElem?_eq_none h1] at h; simp at h
  rw [hb.block g hlt]
  exact h

theorem Tab.below {w w' : World} (h : Tab w) (hb : Below w.heap.size w w') : Tab w' := var_stays h gPow hb

theorem below_grow (w : World) (k : Nat) (os : Array Obj) : Below w.heap.size w (Sort.grow (w.drewN k) os) := by
  refine ⟨rfl, rfl, rfl, ?_, fun i hi => ?_⟩
  · show w.heap.size ≤ (w.heap ++ os).size
    simp
  · show (w.heap ++ os)[i]? = w.heap[i]?
    rw [Array.getElem?_append_left hi]

theorem itoa_from {W : World} (n : Int) (hn : Small n) (S : ByteArray) (hS : Hid ((⟨(Lib.itoa n).toArray⟩ : ByteArray) = S)) (ht : Hid (Tab W)) (w : World) (hb : Hid (Below W.heap.size W w)) :
    Calls Tryd.prog 15 #[.int .i64 n] w fun e w' => e = .returned (.string S) ∧ Hid (Below W.heap.size W w') :=
  (Tryd.strconv_Itoa n (by have := hn.1; omega) (by have := hn.2; omega) w (ht.out.below hb.out)).mono fun e w' ⟨he, k, os, hw⟩ => ⟨by rw [he, hS.out], hid (hb.out.trans (by rw [hw]; exact (below_grow w k os).mono hb.out.size))⟩

/-- A box that has been filled anew: the base of what follows. -/
theorem box_anew {w w1 : World} {t : TypeId} {a b : Value} (hb : Below (w.alloc (.cells #[a, b] t)).heap.size (w.alloc (.cells #[a, b] t)) w1) (m n : Value) :
    ∃ V, (w1.setCell ⟨w.heap.size, 0, none⟩ m).setCell ⟨w.heap.size, 1, none⟩ n = V ∧ (V.cell? ⟨w.heap.size, 0, none⟩ = some m ∧ V.cell? ⟨w.heap.size, 1, none⟩ = some n) ∧ w.heap.size < V.heap.size ∧ Hid (Below w.heap.size w V) := by
  obtain ⟨hc, hf⟩ := bcell hb
  have hz : w.heap.size < w1.heap.size := by have := hb.size; simp at this; omega
  refine ⟨_, rfl, ⟨?_, ?_⟩, by simpa using hz, hid (below_set2 hb _ _)⟩
  · go_simp
  · go_simp

/-- The two cells of a box, and what has become of the world since V. -/
theorem held_box {V w' : World} {g : Nat} {m n : Value} (h0 : V.cell? ⟨g, 0, none⟩ = some m) (h1 : V.cell? ⟨g, 1, none⟩ = some n) (hg : g < V.heap.size) (hb : Hid (Below V.heap.size V w')) :
    w'.cell? ⟨g, 0, none⟩ = some m ∧ w'.cell? ⟨g, 1, none⟩ = some n ∧ Hid (Below V.heap.size V w') :=
  ⟨((bcell hb.out).1 _ _ hg).trans h0, ((bcell hb.out).1 _ _ hg).trans h1, hb⟩

set_option maxHeartbeats 1000000 in
theorem text_any (a b : Int) (ha : I64 a) (hb : I64 b) (S : ByteArray) (hS : Hid ((⟨(textOf (into a) (into b)).toArray⟩ : ByteArray) = S)) (w : World) (ht : Tab w) :
    Calls Tryd.prog 7 #[val a b] w fun e w' => e = .returned (.string S) ∧ Below w.heap.size w w' := by
  have HA := hid ha; have HB := hid hb; clear ha hb
  have HT := hid ht; clear ht
  have hp := into_small a
  have hq := into_small b
  obtain ⟨p, hpe⟩ : ∃ p, into a = p := ⟨_, rfl⟩
  obtain ⟨q, hqe⟩ : ∃ q, into b = q := ⟨_, rfl⟩
  rw [hpe, hqe] at hS
  rw [hpe] at hp
  rw [hqe] at hq
  obtain ⟨S1, h1⟩ : ∃ S1 : ByteArray, ⟨(Lib.itoa p).toArray⟩ = S1 := ⟨_, rfl⟩
  obtain ⟨S2, h2⟩ : ∃ S2 : ByteArray, ⟨(Lib.itoa q).toArray⟩ = S2 := ⟨_, rfl⟩
  have z1 : S1.size ≤ 21 := by rw [← h1, size_mk']; exact itoa_len p hp
  have z2 : S2.size ≤ 21 := by rw [← h2, size_mk']; exact itoa_len q hq
  have HP := hid hp; have HQ := hid hq; clear hp hq
  have H1 := hid h1; have H2 := hid h2
  by_cases hneg : q < 0
  · have HS : Hid (S1 ++ ⟨#[]⟩ ++ S2 ++ ⟨#[105]⟩ = S) := hid (by
      rw [← hS.out, ← h1, ← h2]; unfold textOf; rw [if_pos hneg]
      apply ByteArray.ext; simp)
    have m1 : ¬ 9223372036854775807 < S1.size := by omega
    have m2 : ¬ 9223372036854775807 < S1.size + S2.size := by omega
    have m3 : ¬ 9223372036854775807 < S1.size + S2.size + 1 := by omega
    clear h1 h2 hS
    go_enter Tryd.func7, Tryd.ntmps7
    go_wp2_with fail
    refine (of_any a b HA.out HB.out _).mono ?_
    rw [hpe, hqe]
    rintro e w1 ⟨rfl, hb⟩
    obtain ⟨hc, hf⟩ := bcell hb
    have hz : w.heap.size < w1.heap.size := by have := hb.size; simp at this; omega
    go_wp2_with fail
    obtain ⟨V, hV, ⟨c0, c1⟩, hg, HV⟩ := box_anew hb (.int .i64 p) (.int .i64 q)
    rw [hV]; clear hV hc hf hz hb
    have HTV : Hid (Tab V) := hid (HT.out.below HV.out)
    have hb0 : Hid (Below V.heap.size V V.drew) := hid (Below.refl _ V).drew
    go_region_held3 (fun w' => w'.cell? ⟨w.heap.size, 0, none⟩ = some (.int .i64 p) ∧ w'.cell? ⟨w.heap.size, 1, none⟩ = some (.int .i64 q) ∧ Hid (Below V.heap.size V w')) (exact held_box c0 c1 hg (by assumption))
      (first
        | (go_at_call 15; (first | ((with_reducible refine (itoa_from (W := V) p HP.out S1 H1 HTV _ ?_).mono ?_); exact (And.right (And.right (by assumption))); rintro e w' ⟨rfl, hb⟩) | ((with_reducible refine (itoa_from (W := V) q HQ.out S2 H2 HTV _ ?_).mono ?_); exact (And.right (And.right (by assumption))); rintro e w' ⟨rfl, hb⟩))))
    go_wp2
    go_ret
    exact ⟨by rw [HS.out]; rfl, HV.out.trans (Hid.out (And.right (And.right (by assumption : _ ∧ _ ∧ Hid (Below V.heap.size V _)))) |>.mono HV.out.size)⟩
  · have HS : Hid (S1 ++ ⟨#[43]⟩ ++ S2 ++ ⟨#[105]⟩ = S) := hid (by
      rw [← hS.out, ← h1, ← h2]; unfold textOf; rw [if_neg hneg]
      apply ByteArray.ext; simp)
    have m1 : ¬ 9223372036854775807 < S1.size + 1 := by omega
    have m2 : ¬ 9223372036854775807 < S1.size + 1 + S2.size := by omega
    have m3 : ¬ 9223372036854775807 < S1.size + 1 + S2.size + 1 := by omega
    clear h1 h2 hS
    go_enter Tryd.func7, Tryd.ntmps7
    go_wp2_with fail
    refine (of_any a b HA.out HB.out _).mono ?_
    rw [hpe, hqe]
    rintro e w1 ⟨rfl, hb⟩
    obtain ⟨hc, hf⟩ := bcell hb
    have hz : w.heap.size < w1.heap.size := by have := hb.size; simp at this; omega
    go_wp2_with fail
    obtain ⟨V, hV, ⟨c0, c1⟩, hg, HV⟩ := box_anew hb (.int .i64 p) (.int .i64 q)
    rw [hV]; clear hV hc hf hz hb
    have HTV : Hid (Tab V) := hid (HT.out.below HV.out)
    have hb0 : Hid (Below V.heap.size V V.drew) := hid (Below.refl _ V).drew
    go_region_held3 (fun w' => w'.cell? ⟨w.heap.size, 0, none⟩ = some (.int .i64 p) ∧ w'.cell? ⟨w.heap.size, 1, none⟩ = some (.int .i64 q) ∧ Hid (Below V.heap.size V w')) (exact held_box c0 c1 hg (by assumption))
      (first
        | (go_at_call 15; (first | ((with_reducible refine (itoa_from (W := V) p HP.out S1 H1 HTV _ ?_).mono ?_); exact (And.right (And.right (by assumption))); rintro e w' ⟨rfl, hb⟩) | ((with_reducible refine (itoa_from (W := V) q HQ.out S2 H2 HTV _ ?_).mono ?_); exact (And.right (And.right (by assumption))); rintro e w' ⟨rfl, hb⟩))))
    go_wp2
    go_ret
    exact ⟨by rw [HS.out]; rfl, HV.out.trans (Hid.out (And.right (And.right (by assumption : _ ∧ _ ∧ Hid (Below V.heap.size V _)))) |>.mono HV.out.size)⟩

end Go.Proofs.YtgkhmhbmdmjacaaDoor
