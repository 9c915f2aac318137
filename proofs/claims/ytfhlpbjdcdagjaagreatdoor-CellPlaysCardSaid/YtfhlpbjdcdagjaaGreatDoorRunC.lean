/- Layer 6, vm: the document's Run: its operations, 1. -/
import Derived.Test.YtfhlpbjdcdagjaaGreatDoorHbb
import Derived.Deep.LoopGhost
import Derived.Deep.DeepCutAuto
import Derived.Deep.CutBlock
import Derived.Deep.QuietTactic
import Derived.BigQuiet
import Derived.BigRegion
import Derived.Deep.RegionLaw
namespace Go.Proofs.YtfhlpbjdcdagjaaGreatDoor
open Go.RowKit Go.Lib
set_option linter.unusedVariables false
set_option maxRecDepth 100000

/-- A round's operation, from its first test on. -/
def Rop (w : World) (v1 v2 : Int) (x0 : Value) (N1 T1 T2 : Int) (o a : Int) (s s' : VmS) : Prop :=
  ∀ (K2 K3 : Act → World → Prop) (Q' : Ending → World → Prop) (A : Option Addr) (n cs : Nat) (Z : Int) (vo : Value) (act : Act) (wr : World), Hid (s.st.length = n) → Hid ((n : Int) = Z) → n ≤ 100 →
    FrR w.heap.size x0 vo (.slice A n cs) N1 T1 (.int .i64 o) (.int .i64 a) (.int .i64 Z) act → Hid (RM w v1 v2 wr (.slice A n cs) vo s) → (∀ a' w', NXr w v1 v2 x0 N1 T2 s' a' w' → K2 a' w') →
    (runCod 11).wp Tryz.prog (Exit.inBlock 1 (Exit.then K2 (Exit.inBlock 0 (Exit.then K3 (bodyPost Tryz.prog Tryz.f33 Q'))))) act wr

/-- A new row of one value. -/
theorem one_val (w : World) (x y : Int) (t : TypeId) : Hid (∀ j u, [Value.int .i64 x, Value.int .i64 y][j]? = some u → (w.alloc (.cells #[.int .i64 x, .int .i64 y] t)).cell? ((⟨w.heap.size, 0, none⟩ : Addr).add j) = some u) :=
  hid (fun j u hj => new_cells _ #[.int .i64 x, .int .i64 y] _ j u (by simpa using hj))

theorem one_valc (x y : Int) : ∀ u ∈ [Value.int .i64 x, Value.int .i64 y], u.oneCell' = true := by
  intro u hu; simp at hu; rcases hu with rfl | rfl <;> rfl

section
variable {w : World} {v1 v2 : Int} {x0 : Value} {N1 T1 : Int} {a : Int} {s : VmS}

theorem RM.base {wr : World} {vs vo : Value} (h : RM w v1 v2 wr vs vo s) : w.heap.size + 1 + 1 + 1 ≤ wr.heap.size := h.res.lt

theorem RM.cut' {wr : World} {A : Option Addr} {n cs : Nat} {vo : Value} (h : RM w v1 v2 wr (.slice A n cs) vo s) (hn : s.st.length = n) (k : Nat) (hk : k ≤ n) : RM w v1 v2 wr (.slice A k cs) vo { s with st := s.st.take k } := by
  subst hn
  exact h.cut k hk

theorem RM.to {wr : World} {vs vo : Value} {s' : VmS} (h : RM w v1 v2 wr vs vo s) (h1 : s.st = s'.st) (h2 : s.out = s'.out) (h3 : s.c0 = s'.c0) (h4 : s.c1 = s'.c1) : RM w v1 v2 wr vs vo s' :=
  ⟨h.bel, h.k0, h.k1, by rw [← h3, ← h4]; exact h.box, h.res, by rw [← h1]; exact h.own, by rw [← h2]; exact h.ono, h.ne⟩

/-- Numbers at the stack's top. -/
theorem top_nums {n cs : Nat} {Z : Int} (hZ : (n : Int) = Z) (h1 : 1 ≤ n) (h8 : n ≤ 100) (hc : n ≤ cs) : wrap64 (Z - 1) = Z - 1 ∧ 0 ≤ Z - 1 ∧ Z - 1 < (n : Int) ∧ (Z - 1).toNat = n - 1 ∧ Z - 1 ≤ (cs : Int) ∧ ¬ n = 0 := by
  refine ⟨by unfold wrap64; omega, by omega, by omega, by omega, by omega, by omega⟩

theorem two_nums {n : Nat} {Z : Int} (hZ : (n : Int) = Z) (h1 : 2 ≤ n) (h8 : n ≤ 100) : wrap64 (Z - 2) = Z - 2 ∧ 0 ≤ Z - 2 ∧ Z - 2 < (n : Int) ∧ (Z - 2).toNat = n - 2 := by
  refine ⟨by unfold wrap64; omega, by omega, by omega, by omega⟩

theorem wrapI {n : Nat} {Z : Int} (hZ : (n : Int) = Z) (h8 : n ≤ 100) : IntKind.i64.wrap (Z - 1) = Z - 1 ∧ IntKind.i64.wrap (Z - 2) = Z - 2 := by
  rw [IntKind.wrap_i64, IntKind.wrap_i64]; omega

theorem RM.shape {wr : World} {A : Option Addr} {n cs : Nat} {vo : Value} (h : RM w v1 v2 wr (.slice A n cs) vo s) (hn : s.st.length = n) : n ≤ cs := by
  rcases h.own.2 with ⟨e, e2⟩ | ⟨g, cap, cur, e, _, _, h3, _⟩
  · omega
  · injection e with e1 e2 e3; omega

/-- The stack's cells, from the top down. -/
theorem RM.tops {wr : World} {A : Option Addr} {n cs : Nat} {vo : Value} (h : RM w v1 v2 wr (.slice A n cs) vo s) (hn : s.st.length = n) (h1 : 1 ≤ n) : ∃ g, A = some ⟨g, 0, none⟩ ∧ g < wr.heap.size ∧ (∀ j, wr.frozen? ⟨g, j, none⟩ = false) ∧
    (wr.cell? ⟨g, (n - 1) * 2, none⟩ = some (.int .i64 (topV s.st 1).1) ∧ wr.cell? ⟨g, (n - 1) * 2 + 1, none⟩ = some (.int .i64 (topV s.st 1).2)) ∧
    (2 ≤ n → wr.cell? ⟨g, (n - 2) * 2, none⟩ = some (.int .i64 (topV s.st 2).1) ∧ wr.cell? ⟨g, (n - 2) * 2 + 1, none⟩ = some (.int .i64 (topV s.st 2).2)) := by
  have ho := h.own
  rw [hn] at ho
  obtain ⟨g, cap, hv, _, hg, _, _, hc, hf⟩ := own_cell ho (by omega)
  injection hv with e1 e2 e3
  refine ⟨g, e1, hg, hf, ?_, fun h2 => ?_⟩
  · obtain ⟨i0, i1⟩ := insCells_at s.st (n - 1) (by omega)
    unfold topV
    rw [hn]
    exact ⟨(hc _ (by omega)).trans i0, (hc _ (by omega)).trans i1⟩
  · obtain ⟨i0, i1⟩ := insCells_at s.st (n - 2) (by omega)
    unfold topV
    rw [hn]
    exact ⟨(hc _ (by omega)).trans i0, (hc _ (by omega)).trans i1⟩

theorem RM.push {wr w5 : World} {A : Option Addr} {n cs : Nat} {vo v' : Value} {x y : Int} (h : RM w v1 v2 wr (.slice A n cs) vo s) (hn : s.st.length = n) (ho : w5.ownsRow (w.heap.size + 1 + 1 + 1) 31 2 v' (n + 1) (insCells s.st ++ [.int .i64 x, .int .i64 y]))
    (hg : wr.grownBy w5 (Value.slice A n cs).ownBlock) (hb : v'.ownBlock = (Value.slice A n cs).ownBlock ∨ ∀ k, v'.ownBlock = some k → wr.heap.size ≤ k) : RM w v1 v2 w5 v' vo { s with st := s.st ++ [(x, y)] } :=
  h.stack hg (by rw [List.length_append, insCells_snoc, hn]; exact ho) hb

theorem RM.out1 {wr w5 : World} {vs : Value} {A : Option Addr} {n cs : Nat} {v' : Value} {x y : Int} (h : RM w v1 v2 wr vs (.slice A n cs) s) (hn : s.out.length = n) (ho : w5.ownsRow (w.heap.size + 1 + 1 + 1) 31 2 v' (n + 1) (insCells s.out ++ [.int .i64 x, .int .i64 y]))
    (hg : wr.grownBy w5 (Value.slice A n cs).ownBlock) (hb : v'.ownBlock = (Value.slice A n cs).ownBlock ∨ ∀ k, v'.ownBlock = some k → wr.heap.size ≤ k) : RM w v1 v2 w5 vs v' { s with out := s.out ++ [(x, y)] } :=
  h.emit hg (by rw [List.length_append, insCells_snoc, hn]; exact ho) hb

theorem RM.ownAt {wr : World} {A : Option Addr} {n cs : Nat} {vo : Value} (h : RM w v1 v2 wr (.slice A n cs) vo s) (hn : s.st.length = n) (o : Obj) : (wr.alloc o).ownsRow (w.heap.size + 1 + 1 + 1) 31 2 (.slice A n cs) n (insCells s.st) := by
  have := own_below h.own ((Below.refl _ wr).alloc (Nat.le_refl _) o)
  rw [hn] at this
  exact this

theorem RM.alloc {wr : World} {vs vo : Value} (h : RM w v1 v2 wr vs vo s) (o : Obj) : RM w v1 v2 (wr.alloc o) vs vo s := h.below ((Below.refl _ wr).alloc (Nat.le_refl _) o)

set_option maxHeartbeats 4000000 in
theorem rop_drop (h0 : 1 ≤ s.st.length) : Rop w v1 v2 x0 N1 T1 T1 13 a s (stepS 13 a (v1, v2) s) := by
  intro K2 K3 Q' A n cs Z vo act wr hn hZ h8 hfr HRM hK2
  obtain ⟨z1, z2, z3, z4, z5, z6⟩ := top_nums hZ.out (by rw [← hn.out]; exact h0) h8 (HRM.out.shape hn.out)
  have hst : Hid (s.st.take (n - 1) = cutV s.st 1) := hid (by unfold cutV; rw [hn.out])
  have HC := hid (HRM.out.cut' hn.out (n - 1) (by omega))
  obtain ⟨u, rfl⟩ := hfr.open_
  clear hfr h0
  conv => arg 2; whnf
  go_wp2_with fail
  exact NXr.mk ⟨rfl, rfl, rfl, rfl, rfl, rfl, rfl, rfl, rfl, rfl, rfl, rfl, rfl⟩ (hid (HC.out.to hst.out rfl rfl rfl))

set_option maxHeartbeats 4000000 in
theorem rop_push : Rop w v1 v2 x0 N1 T1 T1 1 a s (stepS 1 a (v1, v2) s) := by
  intro K2 K3 Q' A n cs Z vo act wr hn hZ h8 hfr HRM hK2
  obtain ⟨i0, hi, hz0, hz1, hz2⟩ := info_parts valInfo
  have hbs : w.heap.size + 1 + 1 + 1 ≤ (wr.alloc (.cells #[.int .i64 a, .int .i64 0] 31)).heap.size := by have := HRM.out.base; rw [World.size_alloc]; omega
  have HO := hid (HRM.out.ownAt hn.out (.cells #[.int .i64 a, .int .i64 0] 31))
  have HA := hid (HRM.out.alloc (.cells #[.int .i64 a, .int .i64 0] 31))
  have HC := one_val wr a 0 31
  obtain ⟨u, rfl⟩ := hfr.open_
  clear hfr
  conv => arg 2; whnf
  go_wp2_with (at_builtin; refine wpList_append_blk rfl _ _ 77 rfl (w.heap.size + 1 + 1 + 1) 31 i0 (.agg #[.int .i64 0, .int .i64 0]) 2 16 Tryz.underlying77 hi hz0 hz1 hz2 rfl (by decide) (.slice A n cs) n (insCells s.st) rfl HO.out ⟨wr.heap.size, 0, none⟩ 1 1 [.int .i64 a, .int .i64 0] rfl rfl HC.out (one_valc _ _) (by unfold maxLen; omega) (by omega) hbs ?_; intro v' w5 hown5 hg5 hb5; obtain ⟨A', c', rfl⟩ := own_form hown5; have HM5 := hid (HA.out.push hn.out hown5 hg5 hb5); clear hown5 hg5 hb5)
  exact NXr.mk ⟨rfl, rfl, rfl, rfl, rfl, rfl, rfl, rfl, rfl, rfl, rfl, rfl, rfl⟩ (hid (HM5.out.to rfl rfl rfl rfl))

end

end Go.Proofs.YtfhlpbjdcdagjaaGreatDoor
