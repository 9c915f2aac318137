/- A region that draws its order, operation by operation: each is shown once, whatever the order. -/
import Derived.Test.YtfohdoahddommaaDoorBase
import Derived.Orders
import Derived.RegionTactic
namespace Go.Proofs.YtfohdoahddommaaDoor
open Go.RowKit
set_option linter.unusedVariables false
set_option maxRecDepth 100000

section
variable {P : Program} {ops : Array Oper} {Q : Exit → Act → World → Prop}

/-- Edges lead back; slots are written once; what is looked at is written ahead, or is of the base. -/
def regOk (ops : Array Oper) (bs : List Nat) (n : Nat) : Bool :=
  (List.range ops.size).all fun i => match ops[i]? with
    | none => true
    | some o =>
      (o.after.all fun e => !Region.binds .any e || decide (e.on < i)) &&
      (match o.dst with
        | none => true
        | some d => decide (d < n) && (List.range i).all fun j => match ops[j]? with | some oj => oj.dst != some d | none => true) &&
      (o.looksAt ops).all fun k =>
        (bs.contains k && (List.range ops.size).all fun j => match ops[j]? with | some oj => oj.dst != some k | none => true) ||
        (List.range ops.size).any fun j => (match ops[j]? with | some oj => oj.dst == some k | none => false) && o.after.any fun e => Region.binds .any e && e.on == j

theorem regOk_at {bs : List Nat} {n : Nat} (h : regOk ops bs n = true) {i : Nat} {o : Oper} (ho : ops[i]? = some o) :
    (∀ e ∈ o.after, Region.binds .any e = true → e.on < i) ∧
    (∀ d, o.dst = some d → d < n ∧ ∀ (j : Nat) (oj : Oper), j < i → ops[j]? = some oj → oj.dst ≠ some d) ∧
    (∀ k ∈ o.looksAt ops, (k ∈ bs ∧ ∀ (j : Nat) (oj : Oper), ops[j]? = some oj → oj.dst ≠ some k) ∨ ∃ (j : Nat) (oj : Oper), ops[j]? = some oj ∧ oj.dst = some k ∧ ∃ e ∈ o.after, Region.binds .any e = true ∧ e.on = j) := by
  have hi : i < ops.size := (Array.getElem?_eq_some_iff.1 ho).1
  have h1 := List.all_eq_true.1 h i (List.mem_range.2 hi)
  simp only [ho, Bool.and_eq_true] at h1
  obtain ⟨⟨ha, hd⟩, hl⟩ := h1
  refine ⟨fun e he hb => ?_, fun d hdd => ?_, fun k hk => ?_⟩
  · have := Array.all_eq_true'.1 ha e he
    rw [hb] at this
    simpa using this
  · rw [hdd] at hd
    simp only [Bool.and_eq_true, decide_eq_true_eq] at hd
    refine ⟨hd.1, fun j oj hj hoj => ?_⟩
    have := List.all_eq_true.1 hd.2 j (List.mem_range.2 hj)
    rw [hoj] at this
    simpa using this
  · have := List.all_eq_true.1 hl k hk
    rw [Bool.or_eq_true] at this
    rcases this with h2 | h2
    · rw [Bool.and_eq_true] at h2
      refine .inl ⟨by simpa using h2.1, fun j oj hoj => ?_⟩
      have := List.all_eq_true.1 h2.2 j (List.mem_range.2 (Array.getElem?_eq_some_iff.1 hoj).1)
      rw [hoj] at this
      simpa using this
    · obtain ⟨j, hj, h3⟩ := List.any_eq_true.1 h2
      rw [Bool.and_eq_true] at h3
      obtain ⟨h4, h5⟩ := h3
      cases hoj : ops[j]? with
      | none => rw [hoj] at h4; cases h4
      | some oj =>
        rw [hoj] at h4
        obtain ⟨e, he, h6⟩ := Array.any_eq_true'.1 h5
        rw [Bool.and_eq_true] at h6
        exact .inr ⟨j, oj, hoj, by simpa using h4, e, he, h6.1, by simpa using h6.2⟩

theorem ready_of {listed : Array Bool} {i : Nat} (h : i ∈ Region.ready .any ops listed) :
    ∃ o, ops[i]? = some o ∧ listed.getD i true = false ∧ ∀ e ∈ o.after, Region.binds .any e = true → listed.getD e.on false = true := by
  simp only [Region.ready, List.mem_filter, List.mem_range, Bool.and_eq_true, Bool.not_eq_true'] at h
  obtain ⟨hi, hl, ha⟩ := h
  cases ho : ops[i]? with
  | none => rw [ho] at ha; simp at ha
  | some o =>
    rw [ho] at ha
    simp only [Option.map_some, Option.getD_some] at ha
    refine ⟨o, rfl, hl, fun e he hb => ?_⟩
    have := Array.all_eq_true'.1 ha e he
    rw [hb] at this
    simpa using this

theorem all_listed {bs : List Nat} {n : Nat} (hok : regOk ops bs n = true) {listed : Array Bool} (hs : listed.size = ops.size) (hr : Region.ready .any ops listed = []) :
    ∀ i, i < ops.size → listed.getD i false = true := by
  intro i
  induction i using Nat.strongRecOn with
  | ind i ih =>
    intro hi
    obtain ⟨o, ho⟩ : ∃ o, ops[i]? = some o := ⟨_, Array.getElem?_eq_getElem hi⟩
    have hback := (regOk_at hok ho).1
    cases hl : listed.getD i true with
    | true =>
      rw [Array.getD_eq_getD_getElem?] at hl ⊢
      rw [Array.getElem?_eq_getElem (by omega)] at hl ⊢
      exact hl
    | false =>
      exfalso
      have : i ∈ Region.ready .any ops listed := by
        simp only [Region.ready, List.mem_filter, List.mem_range, Bool.and_eq_true, Bool.not_eq_true']
        refine ⟨hi, hl, ?_⟩
        rw [ho]
        simp only [Option.map_some, Option.getD_some]
        rw [Array.all_eq_true']
        intro e he
        cases hb : Region.binds .any e with
        | false => simp
        | true =>
          have h1 := hback e he hb
          simp [ih e.on h1 (by omega)]
      rw [hr] at this
      cases this

theorem wpAny_inv {bs : List Nat} {n : Nat} (hok : regOk ops bs n = true) (Inv : Array Bool → Act → World → Prop) (hsz : ∀ listed a w, Inv listed a w → listed.size = ops.size)
    (step : ∀ listed a w i, Inv listed a w → i ∈ Region.ready .any ops listed → wpOp P ops Q i (fun a' w' => Inv (listed.setIfInBounds i true) a' w') a w)
    (done : ∀ listed a w, Inv listed a w → (∀ i, i < ops.size → listed.getD i false = true) → Q .normal a w) :
    ∀ (fuel : Nat) (listed : Array Bool) (a : Act) (w : World), listed.toList.count false ≤ fuel → Inv listed a w → wpAny P .any ops Q fuel listed a w := by
  intro fuel
  induction fuel with
  | zero =>
    intro listed a w hc hI
    have hr : Region.ready .any ops listed = [] := by
      apply List.eq_nil_iff_forall_not_mem.2
      intro i hi
      obtain ⟨o, ho, hl, _⟩ := ready_of hi
      have hlt : i < listed.size := by rw [hsz _ _ _ hI]; exact (Array.getElem?_eq_some_iff.1 ho).1
      rw [Array.getD_eq_getD_getElem?, Array.getElem?_eq_getElem hlt] at hl
      have : false ∈ listed.toList := by
        have h1 : listed[i] = false := by simpa using hl
        rw [← h1]
        exact Array.getElem_mem_toList hlt
      have := List.count_pos_iff.2 this
      omega
    exact ⟨hr, done _ _ _ hI (all_listed hok (hsz _ _ _ hI) hr)⟩
  | succ fuel ih =>
    intro listed a w hc hI
    refine ⟨fun hr => done _ _ _ hI (all_listed hok (hsz _ _ _ hI) hr), fun i hi => ?_⟩
    refine wpOp_mono (fun a' w' hI' => ih _ _ _ ?_ hI') (step _ _ _ i hI hi)
    obtain ⟨o, ho, hl, _⟩ := ready_of hi
    have hlt : i < listed.size := by rw [hsz _ _ _ hI]; exact (Array.getElem?_eq_some_iff.1 ho).1
    rw [Array.getD_eq_getD_getElem?, Array.getElem?_eq_getElem hlt] at hl
    have h1 : listed[i] = false := by simpa using hl
    have h2 : false ∈ listed.toList := by rw [← h1]; exact Array.getElem_mem_toList hlt
    have h3 := List.count_pos_iff.2 h2
    rw [Array.toList_setIfInBounds, List.count_set (by simpa using hlt)]
    have h4 : (listed.toList[i]'(by simpa using hlt) == false) = true := by simp [h1]
    rw [if_pos h4, if_neg (by decide)]
    omega

/-- What the slots hold, told slot by slot; G is told of the world. -/
structure RInv (ops : Array Oper) (T : Nat → Value → World → Prop) (G : World → Prop) (bs : List Nat) (a0 : Act) (listed : Array Bool) (a : Act) (w : World) : Prop where
  size : listed.size = ops.size
  good : G w
  defers : a.defers = a0.defers
  tsize : a.tmps.size = a0.tmps.size
  keep : ∀ k ∈ bs, (∀ (j : Nat) (o : Oper), ops[j]? = some o → o.dst ≠ some k) → T k (a.tmps.getD k undef) w
  val : ∀ (j : Nat) (o : Oper) (k : Nat), ops[j]? = some o → listed.getD j false = true → o.dst = some k → T k (a.tmps.getD k undef) w

/-- The guard of an operation is known. -/
def GuardIs (ops : Array Oper) (T : Nat → Value → World → Prop) (o : Oper) (want : Bool) : Prop :=
  match o.guard with
  | none => want = true
  | some (g, b) => ∃ d, (ops[g]?).bind (·.dst) = some d ∧ ∀ u w, T d u w → u = .bool (if want then b else !b)

def OpAll (T : Nat → Value → World → Prop) (a : Act) (w : World) : List Operand → Prop
  | [] => True
  | .tmp k :: r => T k (a.tmps.getD k undef) w ∧ OpAll T a w r
  | _ :: r => OpAll T a w r

/-- One operation of the region, wherever it comes. -/
def StepOK (P : Program) (ops : Array Oper) (Q : Exit → Act → World → Prop) (T : Nat → Value → World → Prop) (G : World → Prop) (o : Oper) : Prop :=
  (GuardIs ops T o true ∧ ∀ (K : Act → World → Prop) (a : Act) (w : World), (∀ v w', (∀ d, o.dst = some d → T d v w') → G w' → Below w.heap.size w w' → K (a.put o.dst v) w') → G w → OpAll T a w o.op.operands.toList → Oper.wp P o a w K Q) ∨
  (GuardIs ops T o false ∧ ∀ w, G w → ∀ d, o.dst = some d → T d undef w)

def StepAll (P : Program) (ops : Array Oper) (Q : Exit → Act → World → Prop) (T : Nat → Value → World → Prop) (G : World → Prop) : List Oper → Prop
  | [] => True
  | o :: r => StepOK P ops Q T G o ∧ StepAll P ops Q T G r

theorem StepAll.mem {T : Nat → Value → World → Prop} {G : World → Prop} : ∀ {l : List Oper}, StepAll P ops Q T G l → ∀ o ∈ l, StepOK P ops Q T G o
  | [], _, _, h => by cases h
  | x :: l, hh, o, h => by
    rcases List.mem_cons.1 h with rfl | h
    · exact hh.1
    · exact hh.2.mem o h
theorem StepAll.append {T : Nat → Value → World → Prop} {G : World → Prop} : ∀ {l m : List Oper}, StepAll P ops Q T G l → StepAll P ops Q T G m → StepAll P ops Q T G (l.append m)
  | [], _, _, h => h
  | x :: l, m, hh, h => ⟨hh.1, StepAll.append hh.2 h⟩

theorem StepAll.nil {T : Nat → Value → World → Prop} {G : World → Prop} : StepAll P ops Q T G [] := trivial
theorem StepAll.cons {T : Nat → Value → World → Prop} {G : World → Prop} {o : Oper} {l : List Oper} (h : StepOK P ops Q T G o) (hh : StepAll P ops Q T G l) : StepAll P ops Q T G (o :: l) := ⟨h, hh⟩

theorem getD_put_ne {a : Act} {dst : Option Tmp} {v : Value} {k : Nat} (h : dst ≠ some k) : (a.put dst v).tmps.getD k undef = a.tmps.getD k undef := by
  cases dst with
  | none => rfl
  | some d =>
    have hne : d ≠ k := fun e => h (by rw [e])
    simp [Act.put, Array.getD_eq_getD_getElem?, Array.getElem?_setIfInBounds_ne hne]
theorem getD_put_self {a : Act} {v : Value} {k : Nat} (h : k < a.tmps.size) : (a.put (some k) v).tmps.getD k undef = v := by
  simp [Act.put, Array.getD_eq_getD_getElem?, h]

theorem opAll_of {T : Nat → Value → World → Prop} {a : Act} {w : World} : ∀ {l : List Operand}, (∀ k, Operand.tmp k ∈ l → T k (a.tmps.getD k undef) w) → OpAll T a w l
  | [], _ => trivial
  | .tmp k :: r, h => ⟨h k (by simp), opAll_of fun k hk => h k (by simp [hk])⟩
  | .const v :: r, h => show OpAll T a w r from opAll_of fun k hk => h k (by simp [hk])
  | .global g :: r, h => show OpAll T a w r from opAll_of fun k hk => h k (by simp [hk])
  | .func f :: r, h => show OpAll T a w r from opAll_of fun k hk => h k (by simp [hk])

theorem wanted_is {T : Nat → Value → World → Prop} {o : Oper} {want : Bool} (h : GuardIs ops T o want) {a : Act} {w : World}
    (hd : ∀ k, k ∈ (match o.guard with | some (g, _) => ((ops[g]?).bind (·.dst)).toList | none => []) → T k (a.tmps.getD k undef) w) : Region.wanted o (yielded ops a.tmps) = want := by
  unfold GuardIs at h
  unfold Region.wanted
  cases hg : o.guard with
  | none => rw [hg] at h; exact h.symm
  | some gb =>
    obtain ⟨g, b⟩ := gb
    rw [hg] at h
    obtain ⟨d, h1, h2⟩ := h
    have h3 := h2 _ _ (hd d (by rw [hg]; simp [h1]))
    have h4 : a.tmps[d]? = some (.bool (if want then b else !b)) := by
      rw [Array.getD_eq_getD_getElem?] at h3
      cases ht : a.tmps[d]? with
      | none => rw [ht] at h3; cases h3
      | some u => rw [ht] at h3; exact congrArg some h3
    have h5 : yielded ops a.tmps g = some (if want then b else !b) := by
      unfold yielded
      rw [h1]
      simp only [Option.bind_some, h4]
    show (yielded ops a.tmps g == some b) = want
    rw [h5]
    cases want <;> cases b <;> rfl

theorem guard_none {T : Nat → Value → World → Prop} {o : Oper} (h : o.guard = none) : GuardIs ops T o true := by
  unfold GuardIs; rw [h]
theorem guard_some {T : Nat → Value → World → Prop} {o : Oper} {g : Nat} {b : Bool} {d : Tmp} (h : o.guard = some (g, b)) (hd : (ops[g]?).bind (·.dst) = some d) (ht : ∀ u w, T d u w → u = .bool b) : GuardIs ops T o true := by
  unfold GuardIs; rw [h]; exact ⟨d, hd, ht⟩

theorem region_all {T : Nat → Value → World → Prop} {G : World → Prop} {bs : List Nat} {id : Nat} {a0 : Act} {w0 : World} (n : Nat) (hm : P.follows .mixedOrders = true) (hn : a0.tmps.size = n) (hok : regOk ops bs n = true)
    (hT : ∀ k u w w', T k u w → Below w.heap.size w w' → T k u w') (hG : G w0.drew) (hbase : ∀ k ∈ bs, T k (a0.tmps.getD k undef) w0.drew)
    (hs : StepAll P ops Q T G ops.toList)
    (hdone : ∀ a w, a.defers = a0.defers → a.tmps.size = n → G w → (∀ k ∈ bs, (∀ (j : Nat) (o : Oper), ops[j]? = some o → o.dst ≠ some k) → T k (a.tmps.getD k undef) w) → (∀ k, (ops.any fun o => o.dst == some k) = true → T k (a.tmps.getD k undef) w) → Q .normal a w) :
    (Code.region id ops true).wp P Q a0 w0 := by
  refine wp_region_any hm ?_
  show wpAny P .any ops Q ops.size (Array.replicate ops.size false) a0 w0.drew
  refine wpAny_inv hok (RInv ops T G bs a0) (fun _ _ _ h => h.size) ?_ ?_ _ _ _ _ ?_ ⟨by simp, hG, rfl, rfl, fun k hk _ => hbase k hk, ?_⟩
  · intro listed a w i hI hi
    obtain ⟨o, ho, hl, hdep⟩ := ready_of hi
    obtain ⟨hback, hdst, hlook⟩ := regOk_at hok ho
    have hin : i < ops.size := (Array.getElem?_eq_some_iff.1 ho).1
    have hlooks : ∀ k ∈ o.looksAt ops, T k (a.tmps.getD k undef) w := by
      intro k hk
      rcases hlook k hk with ⟨h1, h2⟩ | ⟨j, oj, hj, hd, e, he, hb, rfl⟩
      · exact hI.keep k h1 h2
      · exact hI.val _ oj k hj (hdep e he hb) hd
    -- what one operation leaves
    have after : ∀ v w', (∀ d, o.dst = some d → T d v w') → G w' → Below w.heap.size w w' → RInv ops T G bs a0 (listed.setIfInBounds i true) (a.put o.dst v) w' := by
      intro v w' hv hg hb
      refine ⟨by simpa using hI.size, hg, ?_, ?_, ?_, ?_⟩
      · rw [← hI.defers]; cases o.dst <;> rfl
      · rw [← hI.tsize]; cases o.dst <;> simp [Act.put]
      · intro k hk hw
        rw [getD_put_ne (hw i o ho)]
        exact hT _ _ _ _ (hI.keep k hk hw) hb
      · intro j oj k hj hlj hd
        by_cases hij : i = j
        · subst hij
          rw [ho] at hj
          injection hj with hj
          subst hj
          have hlt := (hdst k hd).1
          rw [hd, getD_put_self (by rw [hI.tsize, hn]; exact hlt)]
          exact hv k hd
        · have hlj' : listed.getD j false = true := by
            rw [Array.getD_eq_getD_getElem?, Array.getElem?_setIfInBounds_ne hij] at hlj
            rw [Array.getD_eq_getD_getElem?]; exact hlj
          have hne : o.dst ≠ some k := by
            intro e
            rcases Nat.lt_or_gt_of_ne hij with h1 | h1
            · exact ((regOk_at hok hj).2.1 k hd).2 i o h1 ho e
            · exact (hdst k e).2 j oj h1 hj hd
          rw [getD_put_ne hne]
          exact hT _ _ _ _ (hI.val j oj k hj hlj' hd) hb
    have hstep := hs.mem o (Array.mem_toList_iff.2 (Array.mem_of_getElem? ho))
    unfold wpOp
    simp only [ho]
    have hguard : ∀ k, k ∈ (match o.guard with | some (g, _) => ((ops[g]?).bind (·.dst)).toList | none => []) → T k (a.tmps.getD k undef) w := fun k hk => hlooks k (List.mem_append_right _ hk)
    rcases hstep with ⟨h1, h2⟩ | ⟨h1, h2⟩
    · rw [wanted_is h1 hguard, if_pos rfl]
      refine .inl (h2 _ a w after hI.good (opAll_of fun k hk => hlooks k (List.mem_append_left _ (List.mem_filterMap.2 ⟨.tmp k, hk, rfl⟩))))
    · rw [wanted_is h1 hguard, if_neg (by decide)]
      exact after _ _ (h2 w hI.good) hI.good (Below.refl _ _)
  · intro listed a w hI hall
    refine hdone a w hI.defers (by rw [hI.tsize, hn]) hI.good hI.keep (fun k hk => ?_)
    obtain ⟨o, ho, hd⟩ := Array.any_eq_true'.1 hk
    obtain ⟨j, hj⟩ := Array.getElem?_of_mem ho
    exact hI.val j o k hj (hall j (Array.getElem?_eq_some_iff.1 hj).1) (by simpa using hd)
  · simp
  · intro j o k hj hl
    rw [Array.getD_eq_getD_getElem?] at hl
    by_cases h : j < ops.size
    · simp [h] at hl
    · simp [h] at hl

end

end Go.Proofs.YtfohdoahddommaaDoor
