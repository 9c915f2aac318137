/- Layer 5, check: the effects of all operations, as a map. -/
import Derived.Test.YtfohdoahddommaaDoorChkM
import Derived.Test.YtfohdoahddommaaDoorMapAt
namespace Go.Proofs.YtfohdoahddommaaDoor
open Go.RowKit Go.MapKept
open Go.Maps (Keyed)
set_option linter.unusedVariables false
set_option maxRecDepth 100000

def effV (o : Int) : Value := .agg #[.int .i64 (tkI o), .int .i64 (lvI o)]

def effs : List (Value × Value) := (List.range 18).map fun (i : Nat) => (.int .i64 (i : Int), effV i)

theorem effs_len : effs.length = 18 := by simp [effs]

theorem effs_at (n : Nat) (h : n < 18) : effs[n]? = some (.int .i64 (n : Int), effV n) := by
  simp [effs, h]

theorem int_wf (n : Nat) (h : n < 18) : (Lit.int .i64 (n : Int)).wf = true := by
  simp [Lit.wf, IntKind.min, IntKind.max, IntKind.signed, IntKind.bits]
  omega

theorem effs_keys (n : Nat) : ∀ p ∈ effs.take n, ∃ i, keyOf Tryd.prog 3 p.1 = some i := by
  intro p hp
  have hp := List.mem_of_mem_take hp
  simp only [effs, List.mem_map, List.mem_range] at hp
  obtain ⟨i, hi, rfl⟩ := hp
  exact ⟨_, Maps.keyOf_int_mk Tryd.underlying3 (int_wf i hi)⟩

theorem effs_take {n : Nat} (h : n < 18) : effs.take (n + 1) = effs.take n ++ [(.int .i64 (n : Int), effV n)] := by
  rw [List.take_add_one, effs_at n h]
  rfl

/-- The first n effects stand in the map. -/
structure EffTo (W w : World) (b n : Nat) : Prop where
  at_ : MapAt w b (effs.take n)
  bel : Below W.heap.size W w
  new : W.heap.size ≤ b

theorem EffTo.start (w : World) : Hid (EffTo w (w.alloc (.map #[] 0)) w.heap.size 0) := hid ⟨MapAt.new w, (Below.refl _ w).alloc (Nat.le_refl _) _, Nat.le_refl _⟩

theorem eff_ins {W w : World} {ops : Array Oper} {rest : List Oper} {o : Oper} {a : Act} {Q : Exit → Act → World → Prop} {b n : Nat} (h : Hid (EffTo W w b n)) (hn : n < 18) (hg : o.guard = none) (m x v : Operand) (hop : o.op = Op.insert 88 m x v)
    (hm : a.eval m = .map (some b)) (hx : a.eval x = .int .i64 (n : Int)) (hv : a.eval v = effV n)
    (hK : ∀ w', Hid (EffTo W w' b (n + 1)) → wpList Tryd.prog ops Q rest (a.put o.dst undef) w') : wpList Tryd.prog ops Q (o :: rest) a w := by
  refine wpList_insert_add hg m x v _ hop 3 115 (Maps.int_keyed Tryd.underlying3) Tryd.underlying88 b _ hm h.out.at_ (effs_keys n) (by rw [List.length_take, effs_len]; unfold maxLen; omega) _ _ _ hx hv (Maps.keyOf_int_mk Tryd.underlying3 (int_wf n hn)) ?_ fun w' h1 h2 => hK w' (hid ⟨?_, ?_, h.out.new⟩)
  · intro p hp
    obtain ⟨j, hj, rfl⟩ := List.getElem_of_mem hp
    rw [List.length_take, effs_len] at hj
    rw [List.getElem_take]
    have := effs_at j (by omega)
    rw [List.getElem?_eq_getElem (by rw [effs_len]; omega)] at this
    injection this with this
    rw [this]
    intro q
    injection q with q1 q2
    omega
  · rw [effs_take hn]; exact h1
  · exact h.out.bel.grown h2 h.out.bel.size (fun g hg => by cases hg; exact h.out.new)

/-- All effects. -/
def EffAt (w : World) (b : Nat) : Prop := MapAt w b effs

theorem EffTo.all {W w : World} {b : Nat} (h : Hid (EffTo W w b 18)) : EffAt w b := by
  have := h.out.at_
  rw [List.take_of_length_le (Nat.le_of_eq effs_len)] at this
  exact this

theorem effect_zero (w : World) : (zeroValue 115).run Tryd.prog w = .ok (.agg #[.int .i64 0, .int .i64 0]) w := by kernel_rfl

set_option maxRecDepth 100000 in
theorem eff_look {w : World} {b : Nat} (h : EffAt w b) {o : Int} (h0 : 0 ≤ o) (h1 : o ≤ 17) :
    (Instr.lookup 88 (.map (some b)) (.int .i64 o) false).run Tryd.prog w = .ok (.agg #[.int .i64 (tkI o), .int .i64 (lvI o)]) w := by
  obtain ⟨n, rfl⟩ : ∃ n : Nat, o = (n : Int) := ⟨o.toNat, by omega⟩
  have hk := effs_keys 18
  rw [List.take_of_length_le (Nat.le_of_eq effs_len)] at hk
  rcases MapAt.look h (Maps.int_keyed Tryd.underlying3) Tryd.underlying88 (effect_zero w) hk (Maps.keyOf_int_mk Tryd.underlying3 (int_wf n (by omega))) with ⟨v, hv, hr⟩ | ⟨hno, _⟩
  · rw [hr]
    simp only [effs, List.mem_map, List.mem_range, Prod.mk.injEq] at hv
    obtain ⟨i, hi, h2, rfl⟩ := hv
    injection h2 with h3 h4
    rw [h4]
    rfl
  · exact absurd rfl (hno (.int .i64 (n : Int), effV n) (by
      have := effs_at n (by omega)
      exact List.mem_of_getElem? this))

set_option maxRecDepth 100000 in
set_option maxHeartbeats 2000000 in
theorem effects_any (w : World) :
    Calls Tryd.prog 67 #[] w fun e w' => ∃ b, e = .returned (.map (some b)) ∧ EffAt w' b ∧ Below w.heap.size w w' ∧ w.heap.size ≤ b := by
  have hmm := @run_makeMap Tryd.prog
  have he := EffTo.start w
  go_enter Tryd.func67, Tryd.ntmps67
  go_wp2_with (with_reducible (refine eff_ins he (by omega) rfl _ _ _ rfl rfl rfl rfl ?_); clear he; intro w1 he)
  go_ret
  exact ⟨_, rfl, EffTo.all he, he.out.bel, he.out.new⟩

end Go.Proofs.YtfohdoahddommaaDoor
