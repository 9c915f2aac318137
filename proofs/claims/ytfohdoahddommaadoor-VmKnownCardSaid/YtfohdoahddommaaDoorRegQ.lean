/- A region that draws its order, with operations at its end that wait for all others: the first by region_all's way, with a thing J told of the frame; the rest in their order. -/
import Derived.Test.YtfohdoahddommaaDoorReg
namespace Go.Proofs.YtfohdoahddommaaDoor
open Go.RowKit
set_option linter.unusedVariables false
set_option maxRecDepth 100000

section
variable {P : Program} {ops : Array Oper} {Q : Exit → Act → World → Prop}

/-- Operation i waits for j, over at most f edges. -/
def dep (ops : Array Oper) : Nat → Nat → Nat → Bool
  | 0, _, _ => false
  | f + 1, i, j => match ops[i]? with
    | none => false
    | some o => o.after.any fun e => Region.binds .any e && (e.on == j || dep ops f e.on j)

def lateOk (ops : Array Oper) (m f : Nat) : Bool :=
  decide (m ≤ ops.size) && (List.range ops.size).all fun i => decide (i < m) || (List.range i).all fun j => dep ops f i j

def Closed (ops : Array Oper) (listed : Array Bool) : Prop :=
  ∀ (j : Nat) (o : Oper), ops[j]? = some o → listed.getD j false = true → ∀ e ∈ o.after, Region.binds .any e = true → listed.getD e.on false = true

theorem dep_listed {listed : Array Bool} (hc : Closed ops listed) : ∀ (f i j : Nat), dep ops f i j = true → (∀ o, ops[i]? = some o → ∀ e ∈ o.after, Region.binds .any e = true → listed.getD e.on false = true) → listed.getD j false = true
  | 0, _, _, h, _ => by cases h
  | f + 1, i, j, h, hr => by
    unfold dep at h
    cases ho : ops[i]? with
    | none => rw [ho] at h; cases h
    | some o =>
      rw [ho] at h
      obtain ⟨e, he, h1⟩ := Array.any_eq_true'.1 h
      rw [Bool.and_eq_true, Bool.or_eq_true] at h1
      have h2 := hr o ho e he h1.1
      rcases h1.2 with h3 | h3
      · rw [← (by simpa using h3 : e.on = j)]; exact h2
      · exact dep_listed hc f e.on j h3 fun o' ho' => hc e.on o' ho' h2

/-- What remains, in its order. -/
def wpRest (P : Program) (ops : Array Oper) (Q : Exit → Act → World → Prop) : List Nat → Act → World → Prop
  | [], a, w => Q .normal a w
  | i :: r, a, w => wpOp P ops Q i (wpRest P ops Q r) a w

def StepJ (P : Program) (ops : Array Oper) (Q : Exit → Act → World → Prop) (T : Nat → Value → World → Prop) (G : World → Prop) (J : Act → World → Prop) (o : Oper) : Prop :=
  GuardIs ops T o true ∧ ∀ (K : Act → World → Prop) (a : Act) (w : World), (∀ v w', (∀ d, o.dst = some d → T d v w') → G w' → Below w.heap.size w w' → J (a.put o.dst v) w' → K (a.put o.dst v) w') → G w → J a w → OpAll T a w o.op.operands.toList → Oper.wp P o a w K Q

def StepsJ (P : Program) (ops : Array Oper) (Q : Exit → Act → World → Prop) (T : Nat → Value → World → Prop) (G : World → Prop) (J : Act → World → Prop) : List Oper → Prop
  | [] => True
  | o :: r => StepJ P ops Q T G J o ∧ StepsJ P ops Q T G J r

theorem StepsJ.mem {T : Nat → Value → World → Prop} {G : World → Prop} {J : Act → World → Prop} : ∀ {l : List Oper}, StepsJ P ops Q T G J l → ∀ o ∈ l, StepJ P ops Q T G J o
  | [], _, _, h => by cases h
  | x :: l, hh, o, h => by
    rcases List.mem_cons.1 h with rfl | h
    · exact hh.1
    · exact hh.2.mem o h

theorem StepsJ.nil {T : Nat → Value → World → Prop} {G : World → Prop} {J : Act → World → Prop} : StepsJ P ops Q T G J [] := trivial

theorem StepsJ.cons {T : Nat → Value → World → Prop} {G : World → Prop} {J : Act → World → Prop} {o : Oper} {l : List Oper} (h : StepJ P ops Q T G J o) (hh : StepsJ P ops Q T G J l) : StepsJ P ops Q T G J (o :: l) := ⟨h, hh⟩

theorem frame_eq {a : Act} {n : Nat} (hn : a.tmps.size = n) : a = ⟨((List.range n).map fun k => a.tmps.getD k undef).toArray, a.defers⟩ := by
  obtain ⟨t, d⟩ := a
  congr 1
  apply Array.ext
  · simpa using hn
  · intro i h1 h2
    simp [Array.getD_eq_getD_getElem?, h1]

theorem region_split {T : Nat → Value → World → Prop} {G : World → Prop} {J : Act → World → Prop} {bs : List Nat} {id : Nat} {a0 : Act} {w0 : World} (n m f : Nat) (hm : P.follows .mixedOrders = true) (hn : a0.tmps.size = n) (hok : regOk ops bs n = true) (hlate : lateOk ops m f = true)
    (hT : ∀ k u w w', T k u w → Below w.heap.size w w' → T k u w') (hG : G w0.drew) (hJ : J a0 w0.drew) (hbase : ∀ k ∈ bs, T k (a0.tmps.getD k undef) w0.drew)
    (hs : StepsJ P ops Q T G J (ops.toList.take m))
    (hdone : ∀ a w, a.defers = a0.defers → a.tmps.size = n → G w → J a w → (∀ k ∈ bs, (∀ (j : Nat) (o : Oper), ops[j]? = some o → o.dst ≠ some k) → T k (a.tmps.getD k undef) w) → (∀ k, ((ops.toList.take m).any fun o => o.dst == some k) = true → T k (a.tmps.getD k undef) w) → wpRest P ops Q (List.range' m (ops.size - m)) a w) :
    (Code.region id ops true).wp P Q a0 w0 := by
  simp only [lateOk, Bool.and_eq_true, decide_eq_true_eq] at hlate
  obtain ⟨hmle, hlate⟩ := hlate
  have late : ∀ (listed : Array Bool) (i : Nat), Closed ops listed → i ∈ Region.ready .any ops listed → m ≤ i → ∀ j, j < i → listed.getD j false = true := by
    intro listed i hc hi hmi j hj
    obtain ⟨o, ho, _, hdep⟩ := ready_of hi
    have h1 := List.all_eq_true.1 hlate i (List.mem_range.2 (Array.getElem?_eq_some_iff.1 ho).1)
    rw [Bool.or_eq_true] at h1
    rcases h1 with h1 | h1
    · exact absurd (by simpa using h1) (Nat.not_lt.2 hmi)
    · refine dep_listed hc f i j (List.all_eq_true.1 h1 j (List.mem_range.2 hj)) fun o' ho' => ?_
      rw [ho] at ho'; injection ho' with ho'; subst ho'; exact hdep
  have closing : ∀ (listed : Array Bool) (i : Nat), Closed ops listed → i ∈ Region.ready .any ops listed → Closed ops (listed.setIfInBounds i true) := by
    intro listed i hc hi j o ho hl e he hb
    obtain ⟨o', ho', _, hdep⟩ := ready_of hi
    have h1 : listed.getD e.on false = true := by
      by_cases hij : i = j
      · subst hij
        rw [ho'] at ho; injection ho with ho; subst ho
        exact hdep e he hb
      · rw [Array.getD_eq_getD_getElem?, Array.getElem?_setIfInBounds_ne hij] at hl
        exact hc j o ho (by rw [Array.getD_eq_getD_getElem?]; exact hl) e he hb
    by_cases hie : i = e.on
    · rw [← hie] at h1 ⊢
      rw [Array.getD_eq_getD_getElem?] at h1 ⊢
      by_cases hlt : i < listed.size
      · simp [hlt]
      · simp [hlt] at h1
    · rw [Array.getD_eq_getD_getElem?, Array.getElem?_setIfInBounds_ne hie, ← Array.getD_eq_getD_getElem?]
      exact h1
  refine wp_region_any hm ?_
  show wpAny P .any ops Q ops.size (Array.replicate ops.size false) a0 w0.drew
  refine wpAny_inv hok (fun listed a w => Closed ops listed ∧ listed.size = ops.size ∧ ((RInv ops T G bs a0 listed a w ∧ J a w ∧ ∀ i, m ≤ i → listed.getD i false = false) ∨ ∃ k, m ≤ k ∧ k ≤ ops.size ∧ (∀ i, i < k → listed.getD i false = true) ∧ (∀ i, k ≤ i → listed.getD i false = false) ∧ wpRest P ops Q (List.range' k (ops.size - k)) a w)) (fun _ _ _ h => h.2.1) ?_ ?_ _ _ _ _ ?_ ⟨?_, by simp, .inl ⟨⟨by simp, hG, rfl, rfl, fun k hk _ => hbase k hk, ?_⟩, hJ, ?_⟩⟩
  · rintro listed a w i ⟨hcl, hsz, hI⟩ hi
    have hcl' := closing listed i hcl hi
    obtain ⟨o, ho, hl, hdep⟩ := ready_of hi
    have hin : i < ops.size := (Array.getElem?_eq_some_iff.1 ho).1
    have hlf : listed.getD i false = false := by
      rw [Array.getD_eq_getD_getElem?, Array.getElem?_eq_getElem (by omega)] at hl ⊢
      simpa using hl
    have set_self : ∀ j, (listed.setIfInBounds i true).getD j false = if j = i then true else listed.getD j false := by
      intro j
      by_cases hij : i = j
      · subst hij
        rw [Array.getD_eq_getD_getElem?]
        simp [hsz, hin]
      · rw [Array.getD_eq_getD_getElem?, Array.getElem?_setIfInBounds_ne hij, ← Array.getD_eq_getD_getElem?, if_neg (fun e => hij e.symm)]
    -- from k on
    have from_k : ∀ k, m ≤ k → k ≤ ops.size → (∀ j, j < k → listed.getD j false = true) → (∀ j, k ≤ j → listed.getD j false = false) → wpRest P ops Q (List.range' k (ops.size - k)) a w →
        wpOp P ops Q i (fun a' w' => Closed ops (listed.setIfInBounds i true) ∧ (listed.setIfInBounds i true).size = ops.size ∧ ((RInv ops T G bs a0 (listed.setIfInBounds i true) a' w' ∧ J a' w' ∧ ∀ j, m ≤ j → (listed.setIfInBounds i true).getD j false = false) ∨ ∃ k, m ≤ k ∧ k ≤ ops.size ∧ (∀ j, j < k → (listed.setIfInBounds i true).getD j false = true) ∧ (∀ j, k ≤ j → (listed.setIfInBounds i true).getD j false = false) ∧ wpRest P ops Q (List.range' k (ops.size - k)) a' w')) a w := by
      intro k h1 h2 h3 h4 h5
      have hik : i = k := by
        rcases Nat.lt_trichotomy i k with h | h | h
        · rw [h3 i h] at hlf; cases hlf
        · exact h
        · have := late listed i hcl hi (by omega) k h
          rw [h4 k (Nat.le_refl _)] at this; cases this
      subst hik
      have h6 : ops.size - i = (ops.size - (i + 1)) + 1 := by omega
      rw [h6, List.range'_succ] at h5
      refine wpOp_mono (fun a' w' hK => ⟨hcl', by simpa using hsz, .inr ⟨i + 1, by omega, by omega, fun j hj => ?_, fun j hj => ?_, hK⟩⟩) h5
      · rw [set_self]
        split
        · rfl
        · exact h3 j (by omega)
      · rw [set_self, if_neg (by omega)]
        exact h4 j (by omega)
    rcases hI with ⟨hI, hJw, hrest⟩ | ⟨k, h1, h2, h3, h4, h5⟩
    · by_cases him : i < m
      · obtain ⟨hback, hdst, hlook⟩ := regOk_at hok ho
        have hlooks : ∀ k ∈ o.looksAt ops, T k (a.tmps.getD k undef) w := by
          intro k hk
          rcases hlook k hk with ⟨h1, h2⟩ | ⟨j, oj, hj, hd, e, he, hb, rfl⟩
          · exact hI.keep k h1 h2
          · exact hI.val _ oj k hj (hdep e he hb) hd
        have after : ∀ v w', (∀ d, o.dst = some d → T d v w') → G w' → Below w.heap.size w w' → RInv ops T G bs a0 (listed.setIfInBounds i true) (a.put o.dst v) w' := by
          intro v w' hv hg hb
          refine ⟨by simpa using hI.size, hg, ?_, ?_, ?_, ?_⟩
          · rw [← hI.defers]; cases o.dst <;> rfl
          · rw [← hI.tsize]; cases o.dst <;> simp [Act.put]
          · intro k hk hw
            rw [getD_put_ne (hw i o ho)]
            exact hT _ _ _ _ (hI.keep k hk hw) hb
          · intro j oj k hj hlj hd
            by_cases hij : i = j
            · subst hij
              rw [ho] at hj
              injection hj with hj
              subst hj
              have hlt := (hdst k hd).1
              rw [hd, getD_put_self (by rw [hI.tsize, hn]; exact hlt)]
              exact hv k hd
            · have hlj' : listed.getD j false = true := by
                rw [Array.getD_eq_getD_getElem?, Array.getElem?_setIfInBounds_ne hij] at hlj
                rw [Array.getD_eq_getD_getElem?]; exact hlj
              have hne : o.dst ≠ some k := by
                intro e
                rcases Nat.lt_or_gt_of_ne hij with h1 | h1
                · exact ((regOk_at hok hj).2.1 k hd).2 i o h1 ho e
                · exact (hdst k e).2 j oj h1 hj hd
              rw [getD_put_ne hne]
              exact hT _ _ _ _ (hI.val j oj k hj hlj' hd) hb
        have hmem : o ∈ ops.toList.take m := by
          have h1 : (ops.toList.take m)[i]? = some o := by rw [List.getElem?_take, if_pos him]; simpa using ho
          exact List.mem_of_getElem? h1
        have hstep := hs.mem o hmem
        unfold wpOp
        simp only [ho]
        have hguard : ∀ k, k ∈ (match o.guard with | some (g, _) => ((ops[g]?).bind (·.dst)).toList | none => []) → T k (a.tmps.getD k undef) w := fun k hk => hlooks k (List.mem_append_right _ hk)
        obtain ⟨h1, h2⟩ := hstep
        rw [wanted_is h1 hguard, if_pos rfl]
        refine .inl (h2 _ a w (fun v w' e1 e2 e3 e4 => ⟨hcl', by simpa using hsz, .inl ⟨after v w' e1 e2 e3, e4, fun j hj => ?_⟩⟩) hI.good hJw (opAll_of fun k hk => hlooks k (List.mem_append_left _ (List.mem_filterMap.2 ⟨.tmp k, hk, rfl⟩))))
        rw [set_self, if_neg (by omega)]
        exact hrest j hj
      · have hall := late listed i hcl hi (by omega)
        refine from_k m (Nat.le_refl _) hmle (fun j hj => hall j (by omega)) (fun j hj => hrest j hj) ?_
        refine hdone a w hI.defers (by rw [hI.tsize, hn]) hI.good hJw hI.keep (fun k hk => ?_)
        obtain ⟨o', ho', hd'⟩ := List.any_eq_true.1 hk
        obtain ⟨j, hj, hj2⟩ := List.getElem_of_mem ho'
        have hjm : j < m := by simp at hj; omega
        have hj3 : ops[j]? = some o' := by
          rw [List.getElem_take] at hj2
          rw [← hj2, Array.getElem_toList]
          exact Array.getElem?_eq_getElem (by simp at hj; omega)
        exact hI.val j o' k hj3 (hall j (by omega)) (by simpa using hd')
    · exact from_k k h1 h2 h3 h4 h5
  · rintro listed a w ⟨hcl, hsz, hI⟩ hall
    rcases hI with ⟨hI, hJw, hrest⟩ | ⟨k, h1, h2, h3, h4, h5⟩
    · have hmn : ops.size = m := by
        rcases Nat.lt_or_ge m ops.size with h | h
        · have := hall m h
          rw [hrest m (Nat.le_refl _)] at this; cases this
        · omega
      have h5 := hdone a w hI.defers (by rw [hI.tsize, hn]) hI.good hJw hI.keep (fun k hk => by
        obtain ⟨o', ho', hd'⟩ := List.any_eq_true.1 hk
        obtain ⟨j, hj, hj2⟩ := List.getElem_of_mem ho'
        have hjm : j < m := by simp at hj; omega
        have hj3 : ops[j]? = some o' := by
          rw [List.getElem_take] at hj2
          rw [← hj2, Array.getElem_toList]
          exact Array.getElem?_eq_getElem (by simp at hj; omega)
        exact hI.val j o' k hj3 (hall j (by omega)) (by simpa using hd'))
      rw [hmn, Nat.sub_self] at h5
      exact h5
    · have hk : k = ops.size := by
        rcases Nat.lt_or_ge k ops.size with h | h
        · have := hall k h
          rw [h4 k (Nat.le_refl _)] at this; cases this
        · omega
      subst hk
      rw [Nat.sub_self] at h5
      exact h5
  · simp
  · intro j o ho hl
    rw [Array.getD_eq_getD_getElem?] at hl
    by_cases h : j < ops.size
    · simp [h] at hl
    · simp [h] at hl
  · intro j o k hj hl
    rw [Array.getD_eq_getD_getElem?] at hl
    by_cases h : j < ops.size
    · simp [h] at hl
    · simp [h] at hl
  · intro i hi
    rw [Array.getD_eq_getD_getElem?]
    by_cases h : i < ops.size
    · simp [h]
    · simp [h]

end

end Go.Proofs.YtfohdoahddommaaDoor
