/- Layer 6, vm: VmKnown: what its programs do: plain facts. -/
import Derived.Test.YtfohdoahddommaaDoorVmL
namespace Go.Proofs.YtfohdoahddommaaDoor
open Go.RowKit Go.Lib
set_option linter.unusedVariables false
set_option maxRecDepth 100000

/-- The texts, and what they should put out. -/
def knownL (a b : Int × Int) : List (List UInt8 × (Int × Int)) :=
  [([73, 78, 59, 32, 76, 79, 65, 68, 32, 49, 59, 32, 65, 68, 68, 59, 32, 69, 77, 73, 84], addV a b),
   ([73, 78, 59, 32, 76, 79, 65, 68, 32, 49, 59, 32, 83, 85, 66, 59, 32, 69, 77, 73, 84], subV a b),
   ([73, 78, 59, 32, 76, 79, 65, 68, 32, 49, 59, 32, 77, 85, 76, 59, 32, 69, 77, 73, 84, 59, 32, 72, 65, 76, 84, 59, 32, 73, 78], mulV a b),
   ([73, 78, 59, 32, 84, 85, 82, 78, 59, 32, 69, 77, 73, 84], (into (-a.2), into a.1)),
   ([74, 77, 80, 32, 49, 59, 32, 76, 79, 65, 68, 32, 48, 59, 32, 73, 78, 59, 32, 67, 79, 78, 74, 59, 32, 69, 77, 73, 84], (into a.1, into (-a.2)))]

def kn1 : List (Int × Int) := [(3, 0), (4, 1), (6, 0), (14, 0)]
def kn2 : List (Int × Int) := [(3, 0), (4, 1), (7, 0), (14, 0)]
def kn3 : List (Int × Int) := [(3, 0), (4, 1), (8, 0), (14, 0), (0, 0), (3, 0)]
def kn4 : List (Int × Int) := [(3, 0), (10, 0), (14, 0)]
def kn5 : List (Int × Int) := [(16, 1), (4, 0), (3, 0), (9, 0), (14, 0)]

/-- What a text of them is, and does. -/
theorem known_run {a b : Int × Int} (ha : Rgt a) (hb : Rgt b) {S : List UInt8} {want : Int × Int} (h : (S, want) ∈ knownL a b) :
    ∃ p, fitsL p = true ∧ S = textL p ∧ (chk p).isSome = true ∧ ∃ F, eachS p [a] ⟨[], [], (0, 0), b, 0⟩ = F ∧ F.out = [want] ∧ F.c1 = b := by
  simp only [knownL, List.mem_cons, List.not_mem_nil, or_false, Prod.mk.injEq] at h
  rcases h with ⟨rfl, rfl⟩ | ⟨rfl, rfl⟩ | ⟨rfl, rfl⟩ | ⟨rfl, rfl⟩ | ⟨rfl, rfl⟩
  · refine ⟨kn1, by decide, by decide +kernel, rfl, _, rfl, ?_, ?_⟩ <;> simp [eachS, runS, fin, finN, kn1, opAt, arAt, nxt, stepS, doS, topV, cutV, twoV]
  · refine ⟨kn2, by decide, by decide +kernel, rfl, _, rfl, ?_, ?_⟩ <;> simp [eachS, runS, fin, finN, kn2, opAt, arAt, nxt, stepS, doS, topV, cutV, twoV]
  · refine ⟨kn3, by decide, by decide +kernel, rfl, _, rfl, ?_, ?_⟩ <;> simp [eachS, runS, fin, finN, kn3, opAt, arAt, nxt, stepS, doS, topV, cutV, twoV]
  · refine ⟨kn4, by decide, by decide +kernel, rfl, _, rfl, ?_, ?_⟩ <;> simp [eachS, runS, fin, finN, kn4, opAt, nxt, stepS, doS, topV, cutV, turnV, ha.2]
  · refine ⟨kn5, by decide, by decide +kernel, rfl, _, rfl, ?_, ?_⟩ <;> simp [eachS, runS, fin, finN, kn5, opAt, arAt, nxt, stepS, doS, topV, cutV, conjV, ha.2]

/-- The last one. -/
theorem known_push {a : Int × Int} (ha : Rgt a) {n : Int} (h0 : -524288 ≤ n) (h1 : n ≤ 524287) :
    (chk [(1, n), (3, 0), (8, 0), (14, 0)]).isSome = true ∧ ∃ F, eachS [(1, n), (3, 0), (8, 0), (14, 0)] [a] ⟨[], [], (0, 0), (0, 0), 0⟩ = F ∧ F.out = [mulV (n, 0) a] := by
  have hf : fitsL [(1, n), (3, 0), (8, 0), (14, 0)] = true := by
    simp [fitsL, rightI, loI, hiI, h0, h1]
  refine ⟨?_, _, rfl, ?_⟩
  · unfold chk; rw [if_pos hf]
    rfl
  · simp [eachS, runS, fin, finN, opAt, arAt, nxt, stepS, doS, topV, cutV, twoV]

end Go.Proofs.YtfohdoahddommaaDoor
