/- Strings and the bytes that they are made into, and back. -/
import Derived.Test.YtibnepjlddfnhaaBase
import Derived.Laws.IdiomStrings
namespace Go.Proofs.Ytibnepjlddfnhaa
open Go.RowKit
set_option linter.unusedVariables false

/-- A block's cells are the bytes l, from its head on. -/
def BytesAt (w : World) (g : Nat) (l : List UInt8) : Prop := ∀ j c, l[j]? = some c → w.cell? ⟨g, j, none⟩ = some (.int .u8 c.toNat)

theorem BytesAt.set {w : World} {g k : Nat} {l : List UInt8} (h : BytesAt w g l) (hk : k < l.length) (d : UInt8) : BytesAt (w.setCell ⟨g, k, none⟩ (.int .u8 d.toNat)) g (l.set k d) := by
  intro j c hj
  by_cases e : k = j
  · subst e
    rw [List.getElem?_set_self hk] at hj
    injection hj with hj
    subst hj
    exact World.cell?_setCell_same _ _ _ (h k l[k] (List.getElem?_eq_getElem hk))
  · rw [List.getElem?_set_ne e] at hj
    rw [World.cell?_setCell_other _ _ _ _ (by intro h; injection h with _ h _; exact e h)]
    exact h j c hj

theorem BytesAt.below {w w' : World} {g : Nat} {l : List UInt8} (h : BytesAt w g l) (hg : g < w.heap.size) (hb : Below w.heap.size w w') : BytesAt w' g l := fun j c hj => (hb.cell (p := ⟨g, j, none⟩) hg).trans (h j c hj)

theorem getD_str (l : List UInt8) (j : Nat) (h : j < l.length) : (l.map fun b => (b.toNat : Int)).getD j 0 = (l[j].toNat : Int) := by
  rw [List.getD_eq_getElem?_getD, List.getElem?_map, List.getElem?_eq_getElem h]; rfl

theorem str_of_bytes (w : World) (g n cap : Nat) (l : List UInt8) (h : BytesAt w g l) (hn : n = l.length) (S : ByteArray) (hS : S = ⟨l.toArray⟩) :
    (convert 34 9 (.slice (some ⟨g, 0, none⟩) n cap)).run Try.prog w = .ok (.string S) w := by
  have := run_convert_bytes_arg (P := Try.prog) w 34 5 Try.underlying34 Try.underlying5 g 0 n cap (l.map fun b => (b.toNat : Int)) (by simp [hn]) (fun i hi => by
    rw [Nat.zero_add, getD_str l i (by omega)]
    exact h i l[i] (List.getElem?_eq_getElem (by omega))) 9 Try.underlying9
  rw [this, strOfNums_u8, hS]

theorem bytes_of_str (w : World) (F : ByteArray) : ∃ W K, (convert 9 34 (.string F)).run Try.prog w = .ok (.slice (some ⟨w.heap.size, 0, none⟩) F.size K) W ∧ F.size ≤ K ∧ BytesAt W w.heap.size F.data.toList ∧
    (∀ j, j < F.size → W.frozen? ⟨w.heap.size, j, none⟩ = false) ∧ Below w.heap.size w W ∧ w.heap.size < W.heap.size := by
  have hr := run_bytes_of_string (P := Try.prog) w 9 34 5 F Try.underlying9 Try.underlying34 Try.underlying5
  have hK := grownCap_ge w F.size 0 5
  generalize grownCap w F.size 0 5 = K at hr hK
  have hz : F.size ≤ (bytesRow F K).size := by
    unfold bytesRow
    rw [Array.size_append, Array.size_map]
    exact Nat.le_add_right _ _
  have hs : w.drew.heap.size = w.heap.size := rfl
  refine ⟨_, K, hr, hK, fun j c hj => ?_, fun j hj => ?_, (Below.refl _ w).drew.alloc (Nat.le_refl _) _, by rw [World.size_alloc]; exact Nat.lt_succ_self _⟩
  · have hlt : j < F.data.size := by
      rcases Nat.lt_or_ge j F.data.toList.length with h1 | h1
      · simpa using h1
      · rw [List.getElem?_eq_none h1] at hj; cases hj
    have hcell : (w.drew.alloc (.cells (bytesRow F K) 5 ((bytesRow F K).size, (bytesRow F K).size + 1))).cell? ⟨w.drew.heap.size, j, none⟩ = (bytesRow F K)[j]? := cell_of_row _ _ _ _ _ _ (heap_alloc_new w.drew _)
    rw [hs] at hcell
    rw [hcell, bytesRow, Array.getElem?_append_left (by simpa using hlt), Array.getElem?_map]
    rw [Array.getElem?_toList] at hj
    rw [hj]; rfl
  · have := World.frozen?_alloc_mark w.drew (bytesRow F K) 5 (bytesRow F K).size ((bytesRow F K).size + 1) j
    rw [hs] at this
    rw [this]
    simp; omega

end Go.Proofs.Ytibnepjlddfnhaa
