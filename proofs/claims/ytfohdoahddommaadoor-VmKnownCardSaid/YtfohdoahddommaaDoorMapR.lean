/- Maps that a call makes, of which it is known that each entry is right, whatever their order: put, gone through. -/
import Derived.Test.YtfohdoahddommaaDoorMapAt
import Derived.Maps.RangeRun
import Derived.MapKept
namespace Go.Proofs.YtfohdoahddommaaDoor
open Go.RowKit Go.MapKept
open Go.ChangeMaps (setBlock)
open Go.Maps (Keyed)
set_option linter.unusedVariables false

/-- Block b is a map; each of its entries is right. -/
structure MapOf (Rt : Value → Value → Prop) (w : World) (b : Nat) (es : Array MapEntry) (clock : Nat) : Prop where
  blk : w.heap[b]? = some (.map es clock)
  born : ∀ x ∈ es.toList, x.born < clock
  once : (es.toList.map (·.born)).Nodup
  rt : ∀ x ∈ es.toList, Rt x.key x.val

def MapRt (Rt : Value → Value → Prop) (w : World) (b : Nat) : Prop := ∃ es clock, MapOf Rt w b es clock

section
variable {Rt : Value → Value → Prop} {w w' : World} {b : Nat} {P : Program} {k e t : TypeId}

theorem MapRt.new (w : World) : MapRt Rt (w.alloc (.map #[] 0)) w.heap.size := ⟨#[], 0, heap_alloc_new w _, by simp, by simp, by simp⟩

theorem MapRt.lt (h : MapRt Rt w b) : b < w.heap.size := by
  obtain ⟨es, c, h⟩ := h
  exact (Array.getElem?_eq_some_iff.1 h.blk).1

theorem MapRt.keep (h : MapRt Rt w b) (hk : w'.heap[b]? = w.heap[b]?) : MapRt Rt w' b := by
  obtain ⟨es, c, h⟩ := h
  exact ⟨es, c, hk.trans h.blk, h.born, h.once, h.rt⟩

/-- An entry is put: it stands behind all others, or in the place of the one with its key. -/
theorem MapRt.put (h : MapRt Rt w b) (K : Keyed P k) (ht : P.underlying t = some (.map k e)) (hl : ∀ x y, Rt x y → ∃ i, keyOf P k x = some i) {key val : Value} {kl : Lit} (hkey : keyOf P k key = some kl) (hr : Rt key val) (hst : ∀ w : World, (Instr.keyThatStays key key).run P w = .ok key w) :
    ∃ w', (Instr.mapUpdate t (.map (some b)) key val).run P w = .ok () w' ∧ MapRt Rt w' b ∧ w.grownBy w' (some b) := by
  obtain ⟨es, c, hb, hbo, hon, hrt⟩ := h
  have hes : ∀ x ∈ es.toList, ∃ i, keyOf P k x.key = some i := fun x hx => hl _ _ (hrt x hx)
  have hgr : ∀ o, w.grownBy (setBlock w b o) (some b) := fun o => ⟨rfl, rfl, rfl, by simp [setBlock], fun i _ hi => Go.ChangeMaps.heap_setBlock_other hb _ (fun e => hi (by rw [e]))⟩
  rcases K.find w hkey es.toList hes with ⟨h1, h2⟩ | ⟨j, e0, h1, h2, h3⟩
  · refine ⟨setBlock w b (.map (es.push ⟨key, val, c⟩) (c + 1)), ?_, ⟨_, _, Go.ChangeMaps.heap_setBlock_same hb _, ?_, ?_, ?_⟩, hgr _⟩
    · simp [Instr.mapUpdate, run_underlying ht, MapKept.run_getObj_map hb, K.check w false hkey, h1, MapKept.run_setObj_map _ hb, Result.andThen, setBlock]
    · intro x hx
      rw [Array.toList_push] at hx
      rcases List.mem_append.1 hx with hx | hx
      · have := hbo x hx; omega
      · rw [List.mem_singleton.1 hx]; exact Nat.lt_succ_self _
    · rw [Array.toList_push, List.map_append]
      refine List.nodup_append.2 ⟨hon, by simp, ?_⟩
      intro x hx y hy
      obtain ⟨z, hz, rfl⟩ := List.mem_map.1 hx
      simp at hy
      have := hbo z hz
      omega
    · intro x hx
      rw [Array.toList_push] at hx
      rcases List.mem_append.1 hx with hx | hx
      · exact hrt x hx
      · rw [List.mem_singleton.1 hx]; exact hr
  · have hj : j < es.toList.length := by
      rcases Nat.lt_or_ge j es.toList.length with q | q
      · exact q
      · rw [List.getElem?_eq_none q] at h2; cases h2
    have hj2 : es[j]? = some e0 := by rw [← h2]; simp
    have hmod : (es.modify j fun e => { e with key := key, val := val }).toList = es.toList.set j { e0 with key := key, val := val } := by
      apply List.ext_getElem?
      intro i
      by_cases q : j = i
      · subst q
        rw [List.getElem?_set_self hj]
        simp [hj2]
      · rw [List.getElem?_set_ne q]
        simp [q]
    refine ⟨setBlock w b (.map (es.modify j fun e => { e with key := key, val := val }) c), ?_, ⟨_, _, Go.ChangeMaps.heap_setBlock_same hb _, ?_, ?_, ?_⟩, hgr _⟩
    · simp [Instr.mapUpdate, run_underlying ht, MapKept.run_getObj_map hb, K.check w false hkey, h1, hj2, h3, hst, MapKept.run_setObj_map _ hb, Result.andThen, setBlock]
    · intro x hx
      rw [hmod] at hx
      rcases List.mem_or_eq_of_mem_set hx with hx | rfl
      · exact hbo x hx
      · exact hbo e0 (List.mem_of_getElem? h2)
    · rw [hmod]
      have : (es.toList.set j { e0 with key := key, val := val }).map (·.born) = es.toList.map (·.born) := by
        apply List.ext_getElem?
        intro i
        by_cases q : j = i
        · subst q
          rw [List.getElem?_map, List.getElem?_set_self hj, List.getElem?_map, h2]
          rfl
        · rw [List.getElem?_map, List.getElem?_set_ne q, List.getElem?_map]
      rw [this]; exact hon
    · intro x hx
      rw [hmod] at hx
      rcases List.mem_or_eq_of_mem_set hx with hx | rfl
      · exact hrt x hx
      · exact hr

end

end Go.Proofs.YtfohdoahddommaaDoor
