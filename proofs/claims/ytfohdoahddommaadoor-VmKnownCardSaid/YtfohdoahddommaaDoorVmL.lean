/- Layer 6, vm: what the laws need: arrays compared, Same, right, the document's example. -/
import Derived.Test.YtfohdoahddommaaDoorVmI
import Derived.Test.YtfohdoahddommaaDoorGauRef
import Derived.Test.YtfohdoahddommaaDoorCodP
import Derived.ChangeKeysEq
namespace Go.Proofs.YtfohdoahddommaaDoor
open Go.RowKit Go.Lib
set_option linter.unusedVariables false
set_option maxRecDepth 100000

theorem neq_val (a b c d : Int) (w : World) : (binOp .neq 24 (val a b) (val c d)).run Tryd.prog w = .ok (.bool (!(decide (a = c) && decide (b = d)))) w := by
  have h := eql_val a b c d w
  rw [run_eql_struct] at h
  rw [run_neq_struct]
  cases hq : (Op.equalIn 10000 24 (.agg #[.int .i64 a, .int .i64 b]) (.agg #[.int .i64 c, .int .i64 d])).run Tryd.prog w with
  | ok r w' =>
    rw [hq] at h
    simp only [Result.andThen] at h ⊢
    injection h with h1 h2
    injection h1 with h1
    rw [h1, h2]
  | halt x w' => rw [hq] at h; simp [Result.andThen] at h

theorem eqin_val (n : Nat) (a b c d : Int) (w : World) : (Op.equalIn (n + 2) 24 (val a b) (val c d)).run Tryd.prog w = .ok (decide (a = c) && decide (b = d)) w := by
  rw [run_equalIn_struct w (n + 1) 24 _ _ (by kernel_rfl) (by kernel_rfl)]
  have hf : (Tryd.prog.fieldsOf 24).toList = [{ name := "Re", type := 3, offset := 0, embedded := false, tag := "", pkgPath := "", byteOffset := 0 }, { name := "Im", type := 3, offset := 1, embedded := false, tag := "", pkgPath := "", byteOffset := 8 }] := by kernel_rfl
  rw [hf]
  by_cases h : a = c
  · by_cases h2 : b = d <;> simp [Op.eqFields, part, isAgg, go_sem, Tryd.underlying3, h, h2]
  · simp [Op.eqFields, part, isAgg, go_sem, Tryd.underlying3, h]

/-- Two arrays of two values. -/
theorem eql_arr (a b c d a' b' c' d' : Int) (w : World) : (binOp .eql 25 (.agg #[.int .i64 a, .int .i64 b, .int .i64 c, .int .i64 d]) (.agg #[.int .i64 a', .int .i64 b', .int .i64 c', .int .i64 d'])).run Tryd.prog w = .ok (.bool (decide (((a, b), (c, d)) = ((a', b'), (c', d'))))) w := by
  obtain ⟨i, hi, h0, h1, h2⟩ := info_parts valInfo
  have hc : Tryd.prog.cellsOf 24 = 2 := by kernel_rfl
  rw [run_eql_struct, run_equalIn_array w 9999 _ _ Tryd.underlying25 hi, hc, show List.range 2 = [0, 1] from rfl]
  have p0 : ∀ (x y z u : Int) (w : World), (part 24 #[.int .i64 x, .int .i64 y, .int .i64 z, .int .i64 u] 0).run Tryd.prog w = .ok (val x y) w := by
    intro x y z u w
    simp [part, isAgg, go_sem, sizeOf, typeInfo, hi, h1]
  have p2 : ∀ (x y z u : Int) (w : World), (part 24 #[.int .i64 x, .int .i64 y, .int .i64 z, .int .i64 u] 2).run Tryd.prog w = .ok (val z u) w := by
    intro x y z u w
    simp [part, isAgg, go_sem, sizeOf, typeInfo, hi, h1]
  have q : ∀ (a b c d : Int) (w : World), (Op.equalIn 9999 24 (val a b) (val c d)).run Tryd.prog w = .ok (decide (a = c) && decide (b = d)) w := fun a b c d w => eqin_val 9997 a b c d w
  have e2 : 1 * 2 = 2 := rfl
  have e0 : 0 * 2 = 0 := rfl
  simp only [Op.eqItems, Sem.run_bind, e0, e2, p0, p2, q, Result.andThen_ok, Sem.run_ite, Sem.run_pure]
  by_cases h : a = a' <;> by_cases h2 : b = b' <;> by_cases h3 : c = c' <;> by_cases h4 : d = d' <;> simp [h, h2, h3, h4, Result.andThen]

set_option maxHeartbeats 1000000 in
theorem same_any (v v' : Value) (l l' : List (Int × Int)) (β : Bool) (hβ : Hid (decide (l = l') = β)) (hl : l.length ≤ 1000000000) (hl' : l'.length ≤ 1000000000) (w : World) (hv : SlV w w.heap.size v l) (hv' : SlV w w.heap.size v' l') :
    Calls Tryd.prog 10 #[v, v'] w fun e w' => e = .returned (.bool β) ∧ Below w.heap.size w w' := by
  obtain ⟨A, c, rfl, hc, hA⟩ := hv
  obtain ⟨A', c', rfl, hc', hA'⟩ := hv'
  have HA := hid hA; have HA' := hid hA'; clear hA hA'
  by_cases hn : l.length = l'.length
  · obtain ⟨m, hm⟩ : ∃ m, l.length = m := ⟨_, rfl⟩
    have hm' : l'.length = m := by rw [← hn]; exact hm
    have HM := hid hm; have HM' := hid hm'
    rw [hm] at hc hl HA ⊢
    rw [hm'] at hc' HA' ⊢
    clear hn hm hm' hl'
    go_enter Tryd.func10, Tryd.ntmps10
    go_wp2_with fail
    go_loopw [5] (fun i wr => ∃ k : Nat, k ≤ m ∧ i = .int .i64 k ∧ Hid (∀ j, j < k → l.getD j (0, 0) = l'.getD j (0, 0)) ∧ Hid (Below w.heap.size w wr)) (fun i _ => m - (RowKit.intOf i).toNat)
    case atStart => exact ⟨0, Nat.zero_le _, rfl, hid (fun j hj => absurd hj (by omega)), hid (Below.refl _ _)⟩
    case round =>
      obtain ⟨k, hk, rfl, HT, HB⟩ := hrel
      by_cases hlt : k < m
      · obtain ⟨b, o, rfl, hbB, hcell⟩ := HA.out (by omega)
        obtain ⟨b', o', rfl, hbB', hcell'⟩ := HA'.out (by omega)
        obtain ⟨ca, cb⟩ := hcell k hlt
        obtain ⟨ca', cb'⟩ := hcell' k hlt
        obtain ⟨x, y, hxy⟩ := pair_of (p := l.getD k (0, 0))
        obtain ⟨x', y', hxy'⟩ := pair_of (p := l'.getD k (0, 0))
        rw [hxy] at ca cb
        rw [hxy'] at ca' cb'
        simp only at ca cb ca' cb'
        have d0 := (HB.out.cell (p := ⟨b, o + k * 2, none⟩) hbB).trans ca
        have d1 := (HB.out.cell (p := ⟨b, o + k * 2 + 1, none⟩) hbB).trans cb
        have d2 := (HB.out.cell (p := ⟨b', o' + k * 2, none⟩) hbB').trans ca'
        have d3 := (HB.out.cell (p := ⟨b', o' + k * 2 + 1, none⟩) hbB').trans cb'
        have HX := hid hxy; have HX' := hid hxy'
        obtain ⟨γ, hγ⟩ : ∃ γ, (!(decide (x = x') && decide (y = y'))) = γ := ⟨_, rfl⟩
        have hq : ∀ w : World, (binOp .neq 24 (val x y) (val x' y')).run Tryd.prog w = .ok (.bool γ) w := fun w => (neq_val x y x' y' w).trans (by rw [hγ])
        have HG := hid hγ
        clear ca cb ca' cb' hcell hcell' hxy hxy' hγ
        go_wp2_with fail
        go_quiet (fail)
        have HB2 := hid (below_drewN' HB.out nq)
        cases γ with
        | false =>
          have HEQ : Hid ((x, y) = (x', y')) := hid (by have := HG.out; simp at this; rw [this.1, this.2])
          go_wp2_with fail
          go_roundw
          case rel => exact ⟨k + 1, by omega, by go_num, hid (fun j hj => by
            by_cases e : j = k
            · rw [e, HX.out, HX'.out]; exact HEQ.out
            · exact HT.out j (by omega)), HB2⟩
          case measure => simp [RowKit.intOf] <;> omega
        | true =>
          have hb : Hid (false = β) := hid (by
            rw [← hβ.out]
            refine (decide_eq_false fun e => ?_).symm
            have h1 := HX.out
            rw [e, HX'.out] at h1
            injection h1 with e1 e2
            have := HG.out
            simp [e1, e2] at this)
          go_wp2_with fail
          go_ret
          exact ⟨ret_bool hb.out, HB2.out⟩
      · have hb : Hid (true = β) := hid (by
          rw [← hβ.out]
          refine (decide_eq_true (List.ext_getElem (by rw [HM.out, HM'.out]) fun j h1 h2 => ?_)).symm
          have := HT.out j (by rw [HM.out] at h1; omega)
          rw [List.getD_eq_getElem?_getD, List.getD_eq_getElem?_getD, List.getElem?_eq_getElem h1, List.getElem?_eq_getElem h2] at this
          exact this)
        go_wp2_with fail
        go_ret
        exact ⟨ret_bool hb.out, HB.out⟩
  · have hb : Hid (false = β) := hid (by rw [← hβ.out]; exact (decide_eq_false fun e => hn (by rw [e])).symm)
    have hd : ((l.length : Int) == (l'.length : Int)) = false := by simp only [beq_eq_false_iff_ne]; omega
    go_enter Tryd.func10, Tryd.ntmps10
    go_wp2_with fail
    go_ret
    exact ⟨ret_bool hb.out, Below.refl _ _⟩

set_option maxHeartbeats 1000000 in
theorem lright_any (a b : Int) (β : Bool) (hβ : Hid (rgtB (a, b) = β)) (w : World) :
    Calls Tryd.prog 11 #[val a b] w fun e w' => e = .returned (.bool β) ∧ Below w.heap.size w w' := by
  have he := eql_val (into a) (into b) a b
  have HE : Hid ((decide (into a = a) && decide (into b = b)) = β) := hid (by rw [← hβ.out]; unfold rgtB; congr 1 <;> exact decide_eq_decide.2 ⟨fun h => h.symm, fun h => h.symm⟩)
  go_enter Tryd.func11, Tryd.ntmps11
  go_wp2_with fail
  go_region_law (first
    | (go_simp; go_at_call 15; ((with_reducible refine (refof_val a b _).mono ?_); rintro e w' ⟨rfl, hb⟩; have HBB := hid hb; obtain ⟨hc, hf⟩ := bcell hb; clear hb)))
  all_goals
    go_wp2
    go_ret
    exact ⟨ret_bool HE.out, (((Below.refl _ w).alloc (Nat.le_refl _) _).drew).trans (HBB.out.mono (by simp))⟩

/-- The document's example. -/
def exP : List (Int × Int) := [(3, 0), (4, 0), (6, 0), (11, 0), (5, 0), (14, 0)]

theorem exP_fits : fitsL exP = true := by decide

theorem exP_chk : (chk exP).isSome = true := by rfl

theorem exP_text : (⟨#[73, 78, 59, 32, 76, 79, 65, 68, 32, 48, 59, 32, 65, 68, 68, 59, 32, 68, 85, 80, 59, 32, 83, 84, 79, 82, 69, 32, 48, 59, 32, 69, 77, 73, 84]⟩ : ByteArray).data.toList = textL exP := by decide +kernel

theorem into_small (n : Int) (h0 : -524288 ≤ n) (h1 : n ≤ 524287) : into n = n := into_of n h0 h1

theorem exP_run : eachS exP [(1, 0), (2, 0)] ⟨[], [], (0, 0), (0, 0), 0⟩ = ⟨[], [(1, 0), (3, 0)], (3, 0), (0, 0), 12⟩ := by
  simp [eachS, runS, fin, finN, exP, opAt, arAt, nxt, stepS, doS, topV, cutV, twoV, addV, into_small]

set_option maxHeartbeats 1000000 in
theorem awake6 (w : World) (he : Env4 w) :
    Calls Tryd.prog 7 #[] w fun e w' => e = .returned (.bool true) ∧ Below w.heap.size w w' := by
  have HE := hid he; clear he
  go_enter Tryd.func7, Tryd.ntmps7
  go_wp2_with fail
  refine (cparse_any ⟨#[73, 78, 59, 32, 76, 79, 65, 68, 32, 48, 59, 32, 65, 68, 68, 59, 32, 68, 85, 80, 59, 32, 83, 84, 79, 82, 69, 32, 48, 59, 32, 69, 77, 73, 84]⟩ (by decide) w HE.out).mono ?_
  rintro e w1 ⟨⟨v, l, r, rfl, hp, hv⟩, hb⟩
  obtain ⟨rfl, rfl⟩ := hp.of_text exP_fits exP_text
  have HB1 := hid hb
  have HV := hid hv
  clear hb hv
  go_wp2_with fail
  have hb0 := (Below.refl w1.heap.size w1).alloc (Nat.le_refl _) (.cells #[.int .i64 1, .int .i64 0, .int .i64 2, .int .i64 0] 24)
  refine (each_any v exP (by decide) 0 0 0 0 ⟨⟨by decide, by decide⟩, ⟨by decide, by decide⟩⟩ ⟨⟨by decide, by decide⟩, ⟨by decide, by decide⟩⟩ _ [(1, 0), (2, 0)] (by decide) (i64_two ⟨⟨by decide, by decide⟩, ⟨by decide, by decide⟩⟩ ⟨⟨by decide, by decide⟩, ⟨by decide, by decide⟩⟩) (w1.alloc (.cells #[.int .i64 1, .int .i64 0, .int .i64 2, .int .i64 0] 24)) ((HV.out.below hb0).mono hb0.size) (SlV.lit2 w1 1 0 2 0 _)).mono ?_
  rintro e w2 ⟨⟨r, rfl, hr⟩, hb2⟩
  have HB2 := hid (HB1.out.trans ((hb0.mono (Nat.le_refl _)).trans (hb2.mono hb0.size) |>.mono HB1.out.size))
  clear hb0 hb2
  have hrg : (rgtB (0, 0) && rgtB (0, 0) && [((1 : Int), (0 : Int)), (2, 0)].all rgtB) = true := by simp [rgtB, into_small]
  cases hr with
  | code h => rw [exP_chk] at h; cases h
  | arg h h2 => rw [hrg] at h2; cases h2
  | ok h h2 vo F hF ho =>
    obtain rfl : F = ⟨[], [(1, 0), (3, 0)], (3, 0), (0, 0), 12⟩ := hF.symm.trans exP_run
    obtain ⟨g, cap, rfl, hg1, hg2, hg3, hg4, hg5, _⟩ := own_cell ho (by decide)
    have c2 : w2.cell? ⟨g, 2, none⟩ = some (.int .i64 3) := hg5 2 (by decide)
    simp only at c2 ⊢
    clear hF ho hg5 h h2 hrg
    go_wp2_with fail
    go_ret
    exact ⟨rfl, HB2.out.alloc HB2.out.size _⟩

/-- The boxes of a law: the input, the cells. -/
structure Bxs (w : World) (g : Nat) (x y a b c d : Int) : Prop where
  lt : g + 1 < w.heap.size
  k0 : w.cell? ⟨g, 0, none⟩ = some (.int .i64 x)
  k1 : w.cell? ⟨g, 1, none⟩ = some (.int .i64 y)
  q0 : w.cell? ⟨g + 1, 0, none⟩ = some (.int .i64 a)
  q1 : w.cell? ⟨g + 1, 1, none⟩ = some (.int .i64 b)
  q2 : w.cell? ⟨g + 1, 2, none⟩ = some (.int .i64 c)
  q3 : w.cell? ⟨g + 1, 3, none⟩ = some (.int .i64 d)

theorem Bxs.below {w w' : World} {g : Nat} {x y a b c d : Int} (h : Bxs w g x y a b c d) (hb : Below w.heap.size w w') : Bxs w' g x y a b c d := by
  obtain ⟨hc, _⟩ := bcell hb
  have := h.lt
  exact ⟨Nat.lt_of_lt_of_le h.lt hb.size, (hc _ _ (by omega)).trans h.k0, (hc _ _ (by omega)).trans h.k1, (hc _ _ h.lt).trans h.q0, (hc _ _ h.lt).trans h.q1, (hc _ _ h.lt).trans h.q2, (hc _ _ h.lt).trans h.q3⟩

theorem law_boxes (w : World) (x y a b c d : Int) (t0 t1 : TypeId) : ∃ W : World, (w.alloc (.cells #[.int .i64 x, .int .i64 y] t0)).alloc (.cells #[.int .i64 a, .int .i64 b, .int .i64 c, .int .i64 d] t1) = W ∧ Hid (Below w.heap.size w W) ∧ Hid (Bxs W w.heap.size x y a b c d) := by
  refine ⟨_, rfl, hid (((Below.refl _ w).alloc (Nat.le_refl _) _).alloc (by simp) _), hid ⟨by simp, by simp, by simp, by simp, by simp, by simp, by simp⟩⟩

/-- A result in a box. -/
structure Res6 (w : World) (g : Nat) (vo : Value) (a b c d n : Int) : Prop where
  lt : g < w.heap.size
  r0 : w.cell? ⟨g, 0, none⟩ = some vo
  r1 : w.cell? ⟨g, 1, none⟩ = some (.int .i64 a)
  r2 : w.cell? ⟨g, 2, none⟩ = some (.int .i64 b)
  r3 : w.cell? ⟨g, 3, none⟩ = some (.int .i64 c)
  r4 : w.cell? ⟨g, 4, none⟩ = some (.int .i64 d)
  r5 : w.cell? ⟨g, 5, none⟩ = some (.int .i64 n)

theorem Res6.below {w w' : World} {g : Nat} {vo : Value} {a b c d n : Int} (h : Res6 w g vo a b c d n) (hb : Below w.heap.size w w') : Res6 w' g vo a b c d n := by
  obtain ⟨hc, _⟩ := bcell hb
  exact ⟨Nat.lt_of_lt_of_le h.lt hb.size, (hc _ _ h.lt).trans h.r0, (hc _ _ h.lt).trans h.r1, (hc _ _ h.lt).trans h.r2, (hc _ _ h.lt).trans h.r3, (hc _ _ h.lt).trans h.r4, (hc _ _ h.lt).trans h.r5⟩

theorem Res6.new (w : World) (vo : Value) (a b c d n : Int) (t : TypeId) : Res6 (w.alloc (.cells #[vo, .int .i64 a, .int .i64 b, .int .i64 c, .int .i64 d, .int .i64 n] t)) w.heap.size vo a b c d n :=
  ⟨by simp, by simp, by simp, by simp, by simp, by simp, by simp⟩

theorem i64_both {x y : Int} (hx : (Lit.int .i64 x).wf = true) (hy : (Lit.int .i64 y).wf = true) : I64 x ∧ I64 y := ⟨i64_of hx, i64_of hy⟩

end Go.Proofs.YtfohdoahddommaaDoor
