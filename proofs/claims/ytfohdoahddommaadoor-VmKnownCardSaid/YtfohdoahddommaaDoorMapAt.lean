/- Maps that a call makes: what stands in them, entry by entry. -/
import Derived.Test.YtfohdoahddommaaDoorBase
import Derived.Maps.OwnSet
namespace Go.Proofs.YtfohdoahddommaaDoor
open Go.RowKit Go.MapKept
open Go.ChangeMaps (setBlock)
open Go.Maps (Keyed)
set_option linter.unusedVariables false
set_option maxRecDepth 100000

/-- Block b is a map with just these entries, as they were laid. -/
def MapAt (w : World) (b : Nat) (l : List (Value × Value)) : Prop :=
  ∃ es clock, w.heap[b]? = some (.map es clock) ∧ es.toList.map (fun e => (e.key, e.val)) = l

section
variable {w w' : World} {b : Nat} {l : List (Value × Value)}

theorem MapAt.new (w : World) : MapAt (w.alloc (.map #[] 0)) w.heap.size [] := ⟨#[], 0, heap_alloc_new w _, rfl⟩

theorem MapAt.lt (h : MapAt w b l) : b < w.heap.size := by
  obtain ⟨es, c, hb, _⟩ := h
  exact (Array.getElem?_eq_some_iff.1 hb).1

theorem MapAt.keep (h : MapAt w b l) (hk : w'.heap[b]? = w.heap[b]?) : MapAt w' b l := by
  obtain ⟨es, c, hb, hl⟩ := h
  exact ⟨es, c, hk.trans hb, hl⟩

theorem MapAt.below {B : Nat} (h : MapAt w b l) (hb : Below B w w') (hB : b < B) : MapAt w' b l := h.keep (hb.block b hB)

theorem MapAt.setCell (h : MapAt w b l) {a : Addr} (ha : b ≠ a.block) (u : Value) : MapAt (w.setCell a u) b l := h.keep (Below.heap_setCell _ _ _ _ ha)

theorem MapAt.alloc (h : MapAt w b l) (o : Obj) : MapAt (w.alloc o) b l := h.keep (Below.heap_alloc _ _ _ h.lt)

theorem MapAt.drew (h : MapAt w b l) : MapAt w.drew b l := h

variable {P : Program} {k e t : TypeId} {z : Value}

/-- What is looked up is the entry's value, or the zero value. -/
theorem MapAt.look (h : MapAt w b l) (K : Keyed P k) (ht : P.underlying t = some (.map k e)) (hz : (zeroValue e).run P w = .ok z w) (hl : ∀ p ∈ l, ∃ i, keyOf P k p.1 = some i) {key : Value} {kl : Lit} (hkey : keyOf P k key = some kl) :
    (∃ v, (key, v) ∈ l ∧ (Instr.lookup t (.map (some b)) key false).run P w = .ok v w) ∨ ((∀ p ∈ l, p.1 ≠ key) ∧ (Instr.lookup t (.map (some b)) key false).run P w = .ok z w) := by
  obtain ⟨es, c, hb, rfl⟩ := h
  have hes : ∀ x ∈ es.toList, ∃ i, keyOf P k x.key = some i := fun x hx => hl (x.key, x.val) (List.mem_map.2 ⟨x, hx, rfl⟩)
  rcases K.find w hkey es.toList hes with ⟨h1, h2⟩ | ⟨j, e0, h1, h2, h3⟩
  · refine .inr ⟨fun p hp => ?_, by simp [Instr.lookup, run_underlying ht, MapKept.run_getObj_map hb, K.check w _ hkey, h1, hz, Result.andThen]⟩
    obtain ⟨x, hx, rfl⟩ := List.mem_map.1 hp
    exact h2 x hx
  · refine .inl ⟨e0.val, List.mem_map.2 ⟨e0, List.mem_of_getElem? h2, by rw [← h3]⟩, ?_⟩
    simp [Instr.lookup, run_underlying ht, MapKept.run_getObj_map hb, K.check w _ hkey, h1, Result.andThen]

/-- What is new stands behind all others. -/
theorem MapAt.add (h : MapAt w b l) (K : Keyed P k) (ht : P.underlying t = some (.map k e)) (hl : ∀ p ∈ l, ∃ i, keyOf P k p.1 = some i) (hroom : l.length < maxLen) {key val : Value} {kl : Lit} (hkey : keyOf P k key = some kl) (hn : ∀ p ∈ l, p.1 ≠ key) :
    ∃ w', (Instr.mapUpdate t (.map (some b)) key val).run P w = .ok () w' ∧ MapAt w' b (l ++ [(key, val)]) ∧ w.grownBy w' (some b) := by
  obtain ⟨es, c, hb, rfl⟩ := h
  have hes : ∀ x ∈ es.toList, ∃ i, keyOf P k x.key = some i := fun x hx => hl (x.key, x.val) (List.mem_map.2 ⟨x, hx, rfl⟩)
  rcases K.find w hkey es.toList hes with ⟨h1, h2⟩ | ⟨j, e0, h1, h2, h3⟩
  · have hs : es.size < maxLen := by simpa using hroom
    refine ⟨setBlock w b (.map (es.push ⟨key, val, c⟩) (c + 1)), ?_, ⟨_, _, Go.ChangeMaps.heap_setBlock_same hb _, by simp⟩, ⟨rfl, rfl, rfl, by simp [setBlock], fun i _ hi => Go.ChangeMaps.heap_setBlock_other hb _ (fun e => hi (by rw [e]))⟩⟩
    simp [Instr.mapUpdate, run_underlying ht, MapKept.run_getObj_map hb, K.check w false hkey, h1, MapKept.run_setObj_map _ hb, Result.andThen, setBlock]
  · exact absurd h3 (hn (e0.key, e0.val) (List.mem_map.2 ⟨e0, List.mem_of_getElem? h2, rfl⟩))

end

section
variable {P : Program} {w : World} {ops : Array Oper} {rest : List Oper} {o : Oper} {a : Act} {Q : Exit → Act → World → Prop}

/-- An entry of a map's literal, of a key that is new. -/
theorem wpList_insert_add (hg : o.guard = none) (m x v : Operand) (t : TypeId) (hop : o.op = Op.insert t m x v)
    (k e : TypeId) (K : Keyed P k) (ht : P.underlying t = some (.map k e)) (b : Nat) (l : List (Value × Value)) (hm : a.eval m = .map (some b)) (h : MapAt w b l) (hl : ∀ p ∈ l, ∃ i, keyOf P k p.1 = some i) (hroom : l.length < maxLen)
    (key val : Value) (kl : Lit) (hx : a.eval x = key) (hv : a.eval v = val) (hkey : keyOf P k key = some kl) (hn : ∀ p ∈ l, p.1 ≠ key)
    (hK : ∀ w', MapAt w' b (l ++ [(key, val)]) → w.grownBy w' (some b) → wpList P ops Q rest (a.put o.dst undef) w') : wpList P ops Q (o :: rest) a w := by
  refine wpList_plain hg fun K' hK' => ?_
  obtain ⟨w', hrun, r1, r2⟩ := h.add (val := val) K ht hl hroom hkey hn
  unfold Oper.wp
  simp [execOp, hop, hm, hx, hv, hrun, Result.andThen]
  exact hK' _ _ (hK w' r1 r2)

/-- 'm[k] = v', of a key that is new. -/
theorem wpList_update_add (hg : o.guard = none) (m x v : Operand) (t : TypeId) (hop : o.op = Op.mapUpdate t m x v)
    (k e : TypeId) (K : Keyed P k) (ht : P.underlying t = some (.map k e)) (b : Nat) (l : List (Value × Value)) (hm : a.eval m = .map (some b)) (h : MapAt w b l) (hl : ∀ p ∈ l, ∃ i, keyOf P k p.1 = some i) (hroom : l.length < maxLen)
    (key val : Value) (kl : Lit) (hx : a.eval x = key) (hv : a.eval v = val) (hkey : keyOf P k key = some kl) (hn : ∀ p ∈ l, p.1 ≠ key)
    (hK : ∀ w', MapAt w' b (l ++ [(key, val)]) → w.grownBy w' (some b) → wpList P ops Q rest (a.put o.dst undef) w') : wpList P ops Q (o :: rest) a w := by
  refine wpList_plain hg fun K' hK' => ?_
  obtain ⟨w', hrun, r1, r2⟩ := h.add (val := val) K ht hl hroom hkey hn
  unfold Oper.wp
  simp [execOp, hop, hm, hx, hv, hrun, Result.andThen]
  exact hK' _ _ (hK w' r1 r2)
end

end Go.Proofs.YtfohdoahddommaaDoor
