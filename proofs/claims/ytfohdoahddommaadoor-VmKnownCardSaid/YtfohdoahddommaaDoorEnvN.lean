/- Numbers' digits by the library: Itoa, Atoi: their contracts. -/
import Derived.Test.YtfohdoahddommaaDoorDec
import Derived.Test.YtfohdoahddommaaDoorShelf
import Derived.Lib.AtoiErrMem
namespace Go.Proofs.YtfohdoahddommaaDoor
open Go.RowKit Go.Lib
set_option linter.unusedVariables false
set_option maxRecDepth 100000

theorem size_mk' (l : List UInt8) : (⟨l.toArray⟩ : ByteArray).size = l.length := by show l.toArray.size = _; simp

/-- The table of powers holds what its text lays. -/
def Tab (w : World) : Prop := Lib.TabIs Tryd.prog w "internal/strconv.uint64pow10" .u64 Lib.pow10Tab

theorem gPow : Tryd.prog.globalNamed "internal/strconv.uint64pow10" = some 4 := by kernel_rfl

theorem var_stays {w w' : World} {n : String} {g : Nat} {cs : Array Value} (h : w.var? Tryd.prog n = some cs) (hg : Tryd.prog.globalNamed n = some g) (hb : Below w.heap.size w w') : w'.var? Tryd.prog n = some cs := by
  unfold World.var? at h ⊢
  rw [hg] at h ⊢
  simp only [Option.bind_some] at h ⊢
  have hlt : g < w.heap.size := by
    rcases Nat.lt_or_ge g w.heap.size with h1 | h1
    · exact h1
    · rw [Array.getElem?_eq_none h1] at h; simp at h
  rw [hb.block g hlt]
  exact h

theorem Tab.below {w w' : World} (h : Tab w) (hb : Below w.heap.size w w') : Tab w' := var_stays h gPow hb

theorem below_grow (w : World) (k : Nat) (os : Array Obj) : Below w.heap.size w (Sort.grow (w.drewN k) os) := by
  refine ⟨rfl, rfl, rfl, ?_, fun i hi => ?_⟩
  · show w.heap.size ≤ (w.heap ++ os).size
    simp
  · show (w.heap ++ os)[i]? = w.heap[i]?
    rw [Array.getElem?_append_left hi]

theorem itoa_from {W : World} (n : Int) (hn : Small n) (S : ByteArray) (hS : Hid ((⟨(Lib.itoa n).toArray⟩ : ByteArray) = S)) (ht : Hid (Tab W)) (w : World) (hb : Hid (Below W.heap.size W w)) :
    Calls Tryd.prog 63 #[.int .i64 n] w fun e w' => e = .returned (.string S) ∧ Hid (Below W.heap.size W w') :=
  (Tryd.strconv_Itoa n (by have := hn.1; omega) (by have := hn.2; omega) w (ht.out.below hb.out)).mono fun e w' ⟨he, k, os, hw⟩ => ⟨by rw [he, hS.out], hid (hb.out.trans (by rw [hw]; exact (below_grow w k os).mono hb.out.size))⟩

theorem gSyn : Tryd.prog.globalNamed "strconv.ErrSyntax" = some 2 := by kernel_rfl

theorem gRan : Tryd.prog.globalNamed "strconv.ErrRange" = some 3 := by kernel_rfl

/-- What the library's package-level variables hold that number's digits hang on. -/
structure NumEnv (w : World) : Prop where
  tab : Tab w
  syn : ∃ tp p, w.var? Tryd.prog "strconv.ErrSyntax" = some #[.iface tp p]
  ran : ∃ tp p, w.var? Tryd.prog "strconv.ErrRange" = some #[.iface tp p]

theorem NumEnv.below {w w' : World} (h : NumEnv w) (hb : Below w.heap.size w w') : NumEnv w' := by
  refine ⟨h.tab.below hb, ?_, ?_⟩
  · obtain ⟨tp, p, e⟩ := h.syn
    exact ⟨tp, p, var_stays e gSyn hb⟩
  · obtain ⟨tp, p, e⟩ := h.ran
    exact ⟨tp, p, var_stays e gRan hb⟩

/-- What Atoi answers. -/
inductive NumIs (l : List UInt8) : Value → Prop
  | good (n : Int) : atoiAll l = .ok n → NumIs l (.tuple #[.int .i64 n, .nilIface])
  | bad (m : Int) (tp : TypeId) (p : Value) : (∀ n, atoiAll l ≠ .ok n) → NumIs l (.tuple #[.int .i64 m, .iface tp p])

theorem atoi_num (U : ByteArray) (hs : U.size ≤ 1000) (w : World) (he : NumEnv w) :
    Calls Tryd.prog 27 #[.string U] w fun e w' => (∃ v, e = .returned v ∧ NumIs U.data.toList v) ∧ Below w.heap.size w w' := by
  cases h : atoiAll U.data.toList with
  | ok n =>
    refine (Tryd.strconv_Atoi_ok U (by omega) n h w).mono ?_
    rintro e w' ⟨rfl, hw⟩
    refine ⟨⟨_, rfl, .good n h⟩, ?_⟩
    rcases hw with rfl | ⟨t, rfl⟩
    · exact Below.refl _ _
    · exact Lib.bytesWorld_below _ _ _
  | range =>
    obtain ⟨tp, p, hv⟩ := he.ran
    refine (Tryd.strconv_Atoi_range_var U (by omega) h tp p w hv).mono ?_
    rintro e w' ⟨N, rfl, _, _, hb⟩
    exact ⟨⟨_, rfl, .bad _ _ _ (fun n => by rw [h]; exact fun e => by cases e)⟩, hb⟩
  | _ =>
    obtain ⟨tp, p, hv⟩ := he.syn
    refine (Tryd.strconv_Atoi_syntax_var U (by omega) h tp p w hv).mono ?_
    rintro e w' ⟨N, rfl, _, _, hb⟩
    exact ⟨⟨_, rfl, .bad _ _ _ (fun n => by rw [h]; exact fun e => by cases e)⟩, hb⟩

theorem NumIs.ways {l : List UInt8} {n : Int} {e : Value} (h : NumIs l (.tuple #[.int .i64 n, e])) : (e = .nilIface ∧ atoiAll l = .ok n) ∨ ∃ tp p, e = .iface tp p ∧ ∀ n, atoiAll l ≠ .ok n := by
  cases h with
  | good _ h => exact .inl ⟨rfl, h⟩
  | bad _ tp p h => exact .inr ⟨tp, p, rfl, h⟩

end Go.Proofs.YtfohdoahddommaaDoor
