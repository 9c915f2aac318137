/- Layer 6, vm: VmKnown: what its drawn region needs. -/
import Derived.Test.YtfohdoahddommaaDoorVmK
import Derived.Test.YtfohdoahddommaaDoorMapR
import Derived.Test.YtfohdoahddommaaDoorRegR
import Derived.StringKeys
import Derived.Maps.Keyed
namespace Go.Proofs.YtfohdoahddommaaDoor
open Go.RowKit Go.Lib
set_option linter.unusedVariables false
set_option maxRecDepth 100000

theorem wpOp_one {P : Program} {ops : Array Oper} {Q : Exit → Act → World → Prop} {i : Nat} {o : Oper} (ho : ops[i]? = some o) (hg : o.guard = none) {K : Act → World → Prop} {a : Act} {w : World} (h : o.wp P a w K Q) : wpOp P ops Q i K a w := by
  unfold wpOp
  simp only [ho]
  rw [show Region.wanted o (yielded ops a.tmps) = true by unfold Region.wanted; rw [hg], if_pos rfl]
  exact .inl h

/-- An entry of the law's map. -/
def KnRt (a b : Int × Int) (k v : Value) : Prop := ∃ (S : ByteArray) (want : Int × Int), k = .string S ∧ v = val want.1 want.2 ∧ (S.data.toList, want) ∈ knownL a b ∧ S.size ≤ 100

/-- What a slot of the region holds. -/
inductive Km
  | is (v : Value)
  | map
  | any

def Km.ok (N : Nat) (a b : Int × Int) (k : Km) (u : Value) (w : World) : Prop :=
  match k with
  | .is v => u = v
  | .map => ∃ g, u = .map (some g) ∧ N ≤ g ∧ MapRt (KnRt a b) w g
  | .any => True

/-- What any operation of it makes of the world: such maps stay such maps. -/
def KnR (a b : Int × Int) (w w' : World) : Prop := ∀ g, MapRt (KnRt a b) w g → MapRt (KnRt a b) w' g

theorem KnR.of_below {a b : Int × Int} {w w' : World} (hb : Below w.heap.size w w') : KnR a b w w' := fun g h => h.keep (hb.block g h.lt)

theorem KnR.of_put {a b : Int × Int} {w w' : World} {g : Nat} (hm : MapRt (KnRt a b) w' g) (hg : w.grownBy w' (some g)) : KnR a b w w' := fun g' h => by
  by_cases e : g' = g
  · subst e; exact hm
  · exact h.keep (hg.block g' h.lt (by intro q; injection q with q; exact e q))

theorem Km.stable (N : Nat) (a b : Int × Int) (k : Km) (u : Value) (w w' : World) (h : k.ok N a b u w) (hr : KnR a b w w') : k.ok N a b u w' := by
  cases k with
  | is v => exact h
  | map =>
    obtain ⟨g, e, hn, hm⟩ := h
    exact ⟨g, e, hn, hr g hm⟩
  | any => trivial

theorem str_key (S : ByteArray) (hs : S.size ≤ 100) : keyOf Tryd.prog 9 (.string S) = some (.string S.data.toList) := _root_.Go.WideMaps.keyOf_string_mk Tryd.underlying9 (by unfold maxLen; omega)

theorem kn_key {a b : Int × Int} : ∀ x y, KnRt a b x y → ∃ i, keyOf Tryd.prog 9 x = some i := by
  rintro x y ⟨S, want, rfl, _, _, hs⟩
  exact ⟨_, str_key S hs⟩

/-- An entry put, as one operation. -/
theorem wp_insert_kn {a b : Int × Int} {o : Oper} {act : Act} {w : World} {K : Act → World → Prop} {Q : Exit → Act → World → Prop} (m x v : Operand) (hop : o.op = Op.insert 42 m x v) (g : Nat) (hm : act.eval m = .map (some g)) (h : MapRt (KnRt a b) w g)
    (S : ByteArray) (want : Int × Int) (hx : act.eval x = .string S) (hv : act.eval v = val want.1 want.2) (hs : S.size ≤ 100) (hr : (S.data.toList, want) ∈ knownL a b)
    (hK : ∀ w', MapRt (KnRt a b) w' g → w.grownBy w' (some g) → K (act.put o.dst undef) w') : o.wp Tryd.prog act w K Q := by
  obtain ⟨w', hrun, r1, r2⟩ := h.put (val := val want.1 want.2) (Maps.string_keyed Tryd.underlying9) Tryd.underlying42 kn_key (str_key S hs) ⟨S, want, rfl, rfl, hr, hs⟩ (fun w => MapKept.run_keyThatStays (d := .string) trivial)
  unfold Oper.wp
  simp [execOp, hop, hm, hx, hv, hrun, Result.andThen]
  exact hK _ r1 r2

/-- The slots of the region. -/
def slotsKn (g : Nat) (x y x' y' n : Int) : List Km :=
  let pa (j : Nat) : Km := .is (.pointer (some ⟨g, j, none⟩))
  [.any, .any, .is (.int .i64 n), .is (.pointer (some ⟨g, 0, none⟩)), .is (.pointer (some ⟨g + 1, 0, none⟩))] ++ List.replicate 28 .any ++
  [.map, .is (val x y), .is (val x' y'), .is (val (addV (x, y) (x', y')).1 (addV (x, y) (x', y')).2), .is (val x y), .is (val x' y'), .is (val (subV (x, y) (x', y')).1 (subV (x, y) (x', y')).2), .is (val x y), .is (val x' y'), .is (val (mulV (x, y) (x', y')).1 (mulV (x, y) (x', y')).2),
   pa 1, .is (.int .i64 y), .is (.int .i64 (-y)), pa 0, .is (.int .i64 x), .is (val (into (-y)) (into x)), pa 0, .is (.int .i64 x), pa 1, .is (.int .i64 y), .is (.int .i64 (-y)), .is (val (into x) (into (-y)))]

end Go.Proofs.YtfohdoahddommaaDoor
