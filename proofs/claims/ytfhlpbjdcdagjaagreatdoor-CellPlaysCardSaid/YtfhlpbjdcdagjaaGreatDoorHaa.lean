/- What all texts of this seat use: slices that read as lists, blocks, small lemmas on lists of bytes. -/
import Derived.Test.YtfhlpbjdcdagjaaGreatDoorRows
import Derived.WalkKit
import Derived.Outline
import Derived.WalkSpells
import Derived.WalkLawsBesides
import Derived.OpenShut
import Derived.SliceStrings
import Derived.SizedLaws
import Derived.Lib.ItoaMem
import Derived.Lib.ItoaLen
import Derived.Lib.AtoiAllCases
import Derived.Lib.Join
import Derived.Lib.IndexMore
import Derived.Lib.CutLaws
namespace Go.Proofs.YtfhlpbjdcdagjaaGreatDoor
open Go.RowKit

theorem hid {p : Prop} (h : p) : Hid p := h

theorem addr_add (b o j : Nat) : (⟨b, o, none⟩ : Addr).add j = ⟨b, o + j, none⟩ := by
  unfold Addr.add; split <;> simp_all

/-- A slice value whose elements are the integers zs of kind k, its row below block B. -/
def SlI (w : World) (B : Nat) (k : IntKind) (v : Value) (zs : List Int) : Prop :=
  ∃ A c, v = .slice A zs.length c ∧ zs.length ≤ c ∧
    (0 < zs.length → ∃ b o, A = some ⟨b, o, none⟩ ∧ b < B ∧ ∀ j, j < zs.length → w.cell? ⟨b, o + j, none⟩ = some (.int k (zs.getD j 0)))

section
variable {w w' : World} {B : Nat} {k : IntKind} {v : Value} {zs : List Int}

theorem SlI.keep (h : SlI w B k v zs) (hk : ∀ b o, b < B → w'.cell? ⟨b, o, none⟩ = w.cell? ⟨b, o, none⟩) : SlI w' B k v zs := by
  obtain ⟨A, c, hv, hc, h⟩ := h
  refine ⟨A, c, hv, hc, fun hp => ?_⟩
  obtain ⟨b, o, hA, hb, hz⟩ := h hp
  exact ⟨b, o, hA, hb, fun j hj => (hk b _ hb).trans (hz j hj)⟩

theorem SlI.below (h : SlI w B k v zs) (hb : Below B w w') : SlI w' B k v zs := h.keep fun b o h => hb.cell (p := ⟨b, o, none⟩) h

theorem SlI.mono {B' : Nat} (h : SlI w B k v zs) (hB : B ≤ B') : SlI w B' k v zs := by
  obtain ⟨A, c, hv, hc, h⟩ := h
  refine ⟨A, c, hv, hc, fun hp => ?_⟩
  obtain ⟨b, o, hA, hb, hz⟩ := h hp
  exact ⟨b, o, hA, by omega, hz⟩
end

/-- A slice of integers that came in: all its elements fit their kind. -/
structure SlIn (w : World) (k : IntKind) (v : Value) (zs : List Int) : Prop where
  row : SlI w w.heap.size k v zs
  fits : ∀ n ∈ zs, (Lit.int k n).wf = true
  most : zs.length ≤ maxLen

theorem SlIn.none_ (w : World) (k : IntKind) : SlIn w k (.slice none 0 0) [] := ⟨⟨_, _, rfl, Nat.le_refl _, fun h => absurd h (by simp)⟩, by simp, by simp⟩

theorem SlIn.of_row {w : World} {k : IntKind} {a : Addr} {len cap : Nat} {zs : List Int} (hl : len ≤ cap) (hm : cap ≤ maxLen) (hz : zs.length = cap)
    (hc : ∀ i, i < zs.length → w.cell? (a.add i) = some (.int k (zs.getD i 0))) (hw : ∀ n ∈ zs, (Lit.int k n).wf = true) : SlIn w k (.slice (some a) len cap) (zs.take len) := by
  have e : (zs.take len).length = len := by rw [List.length_take]; omega
  refine ⟨⟨some a, cap, by rw [e], by rw [e]; exact hl, fun hp => ?_⟩, fun n hn => hw n (List.mem_of_mem_take hn), by rw [e]; omega⟩
  rw [e] at hp ⊢
  obtain ⟨b, off, spot⟩ := a
  have h0 := hc 0 (by omega)
  have hspot : spot = none := by simpa [Addr.add] using World.cell?_spot h0
  subst hspot
  refine ⟨b, off, rfl, ?_, fun j hj => ?_⟩
  · exact World.block_lt_of_cell? w ⟨b, off, none⟩ (by simpa [Addr.add] using h0)
  · have := hc j (by omega)
    rw [addr_add] at this
    rw [this]
    congr 2
    simp [List.getD_eq_getElem?_getD, hj]

/-- One new block of integers, as a slice over all of it. -/
theorem SlI.new (w : World) (k : IntKind) (zs : List Int) (t : TypeId) :
    SlI (w.alloc (.cells (zs.map (Value.int k)).toArray t)) (w.heap.size + 1) k (.slice (some ⟨w.heap.size, 0, none⟩) zs.length zs.length) zs := by
  refine ⟨_, _, rfl, Nat.le_refl _, fun _ => ⟨_, 0, rfl, by omega, fun j hj => ?_⟩⟩
  simp [World.cell?_alloc_new, hj]

/-- A slice value whose elements are the strings ls, its row below block B. -/
def SlS (w : World) (B : Nat) (v : Value) (ls : List ByteArray) : Prop :=
  ∃ A c, v = .slice A ls.length c ∧ ls.length ≤ c ∧
    (0 < ls.length → ∃ b o, A = some ⟨b, o, none⟩ ∧ b < B ∧ ∀ j S, ls[j]? = some S → w.cell? ⟨b, o + j, none⟩ = some (.string S))

theorem SlS.keep {w w' : World} {B : Nat} {v : Value} {ls : List ByteArray} (h : SlS w B v ls) (hk : ∀ b o, b < B → w'.cell? ⟨b, o, none⟩ = w.cell? ⟨b, o, none⟩) : SlS w' B v ls := by
  obtain ⟨A, c, hv, hc, h⟩ := h
  refine ⟨A, c, hv, hc, fun hp => ?_⟩
  obtain ⟨b, o, hA, hb, hz⟩ := h hp
  exact ⟨b, o, hA, hb, fun j S hj => (hk b _ hb).trans (hz j S hj)⟩

theorem SlS.below {w w' : World} {B : Nat} {v : Value} {ls : List ByteArray} (h : SlS w B v ls) (hb : Below B w w') : SlS w' B v ls := h.keep fun b o h => hb.cell (p := ⟨b, o, none⟩) h

theorem SlS.mono {w : World} {B B' : Nat} {v : Value} {ls : List ByteArray} (h : SlS w B v ls) (hB : B ≤ B') : SlS w B' v ls := by
  obtain ⟨A, c, hv, hc, h⟩ := h
  refine ⟨A, c, hv, hc, fun hp => ?_⟩
  obtain ⟨b, o, hA, hb, hz⟩ := h hp
  exact ⟨b, o, hA, by omega, hz⟩

/-- One new block of strings, as a slice over all of it. -/
theorem SlS.new (w : World) (ls : List ByteArray) (t : TypeId) :
    SlS (w.alloc (.cells (ls.map Value.string).toArray t)) (w.alloc (.cells (ls.map Value.string).toArray t)).heap.size (.slice (some ⟨w.heap.size, 0, none⟩) ls.length ls.length) ls := by
  refine ⟨_, _, rfl, Nat.le_refl _, fun _ => ⟨_, 0, rfl, by simp, fun j S hj => ?_⟩⟩
  simp [World.cell?_alloc_new, hj]

/-- A slice of strings that came in. -/
structure SsIn (w : World) (v : Value) (ls : List ByteArray) : Prop where
  row : SlS w w.heap.size v ls
  fits : ∀ S ∈ ls, S.size ≤ 140737488351232
  most : ls.length ≤ 140737488351232

theorem SsIn.none_ (w : World) : SsIn w (.slice none 0 0) [] := ⟨⟨_, _, rfl, Nat.le_refl _, fun h => absurd h (by simp)⟩, by simp, by simp⟩

theorem SsIn.of_row {w : World} {a : Addr} {len cap : Nat} {ss : List ByteArray} (hl : len ≤ cap) (hz : ss.length = cap)
    (hc : ∀ i, i < ss.length → w.cell? (a.add i) = some (.string (ss.getD i ByteArray.empty))) (hw : ∀ S ∈ ss, S.size ≤ 140737488351232) (hm : ss.length ≤ 140737488351232) : SsIn w (.slice (some a) len cap) (ss.take len) := by
  have e : (ss.take len).length = len := by rw [List.length_take]; omega
  refine ⟨⟨some a, cap, by rw [e], by rw [e]; exact hl, fun hp => ?_⟩, fun n hn => hw n (List.mem_of_mem_take hn), by rw [e]; omega⟩
  rw [e] at hp
  obtain ⟨b, off, spot⟩ := a
  have h0 := hc 0 (by omega)
  have hspot : spot = none := by simpa [Addr.add] using World.cell?_spot h0
  subst hspot
  refine ⟨b, off, rfl, ?_, fun j S hj => ?_⟩
  · exact World.block_lt_of_cell? w ⟨b, off, none⟩ (by simpa [Addr.add] using h0)
  · have hj' : j < len := by
      rcases Nat.lt_or_ge j len with h1 | h1
      · exact h1
      · rw [List.getElem?_eq_none (by omega)] at hj; cases hj
    have := hc j (by omega)
    rw [addr_add] at this
    rw [this]
    rw [List.getElem?_take_of_lt hj'] at hj
    simp [List.getD_eq_getElem?_getD, hj]

theorem weights_strs {H : Type} {P : Program} {e : TypeId} : ∀ {l : List ByteArray} {S : ByteArray}, S ∈ l → S.size ∈ DataW.weightsAll (H := H) P e (ChangeShapes.strs l)
  | [], _, h => by cases h
  | T :: l, S, h => by
    simp only [ChangeShapes.strs, List.map_cons, DataW.weightsAll, List.mem_append]
    rcases List.mem_cons.1 h with rfl | h
    · left; simp [DataW.weights]
    · right; exact weights_strs h

theorem sized_strs {H : Type} {P : Program} {ts : List TypeId} {ds : List (DataW H)} (h : (DataW.weightsEach P ts ds).all (· ≤ reachBytes) = true) {j : Nat} {t e : TypeId} {ss : List ByteArray} {len : Nat}
    (ht : ts[j]? = some t) (hd : ds[j]? = some (.slice (ChangeShapes.strs (ss.take len)) (ChangeShapes.strs (ss.drop len)))) (hu : P.underlying t = some (.slice e)) (hb : P.bytesOf e = 16) : (∀ S ∈ ss, S.size ≤ 140737488351232) ∧ ss.length ≤ 140737488351232 := by
  refine ⟨fun S hS => ?_, ?_⟩
  · have hm : S.size ∈ (DataW.slice (ChangeShapes.strs (ss.take len)) (ChangeShapes.strs (ss.drop len)) : DataW H).weights P t := by
      simp only [DataW.weights, hu, List.mem_cons, List.mem_append]
      right
      rw [← List.take_append_drop len ss] at hS
      rcases List.mem_append.1 hS with hS | hS
      · exact .inl (weights_strs hS)
      · exact .inr (weights_strs hS)
    have := List.all_eq_true.1 h _ (DataW.weights_mem_each ht hd _ hm)
    exact of_decide_eq_true this
  · have := sized_slice h ht hd hu
    rw [hb] at this
    simp only [ChangeShapes.strs, List.length_map, List.length_take, List.length_drop, reachBytes] at this
    omega

/-- The cells of a block that has just been laid. -/
theorem new_cells (w : World) (cs : Array Value) (t : TypeId) : ∀ j u, cs[j]? = some u → (w.alloc (.cells cs t)).cell? ((⟨w.heap.size, 0, none⟩ : Addr).add j) = some u := by
  intro j u hu
  rw [addr_add]
  simpa [World.cell?_alloc_new] using hu

/-- Only block g, and what is new, has turned. -/
theorem turned_refl (w : World) (r : Option Nat) : w.grownBy w r := ⟨rfl, rfl, rfl, Nat.le_refl _, fun _ _ _ => rfl⟩
theorem turned_alloc {a w : World} {r : Option Nat} (h : a.grownBy w r) (o : Obj) : a.grownBy (w.alloc o) r :=
  ⟨h.os, h.tape, h.output, Nat.le_trans h.size (by simp), fun i hi hne => (Below.heap_alloc w o i (Nat.lt_of_lt_of_le hi h.size)).trans (h.block i hi hne)⟩
theorem turned_set {a w : World} {g : Nat} (h : a.grownBy w (some g)) {p : Addr} (hp : p.block = g ∨ a.heap.size ≤ p.block) (u : Value) : a.grownBy (w.setCell p u) (some g) := by
  refine ⟨h.os, h.tape, h.output, by simpa [World.setCell] using h.size, fun i hi hne => (Below.heap_setCell w p u i ?_).trans (h.block i hi hne)⟩
  rintro rfl
  rcases hp with hp | hp
  · exact hne (by rw [hp])
  · omega
theorem turned_drew {a w : World} {r : Option Nat} (h : a.grownBy w r) : a.grownBy w.drew r := ⟨h.os, h.tape, h.output, h.size, h.block⟩
theorem turned_drewN {a w : World} {r : Option Nat} (h : a.grownBy w r) (n : Nat) : a.grownBy (w.drewN n) r := ⟨h.os, h.tape, h.output, h.size, h.block⟩
theorem turned_below {a w : World} (h : Below a.heap.size a w) (r : Option Nat) : a.grownBy w r := ⟨h.os, h.tape, h.output, h.size, fun i hi _ => h.block i hi⟩
theorem turned_trans {a b c : World} {r : Option Nat} (h : a.grownBy b r) (k : b.grownBy c r) : a.grownBy c r :=
  ⟨k.os.trans h.os, k.tape.trans h.tape, k.output.trans h.output, Nat.le_trans h.size k.size, fun i hi hne => (k.block i (Nat.lt_of_lt_of_le hi h.size) hne).trans (h.block i hi hne)⟩
theorem turned_new {a w : World} {g : Nat} (h : a.grownBy w (some g)) (hg : a.heap.size ≤ g) : Below a.heap.size a w :=
  ⟨h.os, h.tape, h.output, h.size, fun k hk => h.block k hk (by intro e; injection e with e; omega)⟩
theorem turned_below_of {B g : Nat} {a w : World} (h : a.grownBy w (some g)) (hB : B ≤ a.heap.size) (hg : B ≤ g) : Below B a w :=
  ⟨h.os, h.tape, h.output, h.size, fun k hk => h.block k (by omega) (by intro e; injection e with e; omega)⟩

def u8s (l : List UInt8) : List Value := l.map fun b => .int .u8 b.toNat
theorem u8s_append (a b : List UInt8) : u8s (a ++ b) = u8s a ++ u8s b := by simp [u8s]
theorem u8s_length (a : List UInt8) : (u8s a).length = a.length := by simp [u8s]
theorem u8s_one (l : List UInt8) : ∀ u ∈ u8s l, u.oneCell' = true := by
  intro u hu
  simp only [u8s, List.mem_map] at hu
  obtain ⟨b, _, rfl⟩ := hu
  rfl
theorem strOfNums_u8 (l : List UInt8) : strOfNums (l.map fun b => (b.toNat : Int)) = ⟨l.toArray⟩ := by
  simp [strOfNums, Function.comp_def]
theorem ret_sn (l : List UInt8) : Ending.returned (.string (strOfNums (l.map fun b => (b.toNat : Int)))) = .returned (.string ⟨l.toArray⟩) := by rw [strOfNums_u8]
theorem u8_val (n : Int) (h0 : 0 ≤ n) (h1 : n < 256) : ((UInt8.ofNat n.toNat).toNat : Int) = n := by
  rw [UInt8.toNat_ofNat']; omega

theorem SlI.one (w : World) (k : IntKind) (z : Int) (t : TypeId) :
    SlI (w.alloc (.cells #[.int k z] t)) (w.alloc (.cells #[.int k z] t)).heap.size k (.slice (some ⟨w.heap.size, 0, none⟩) 1 1) [z] := by
  have h := SlI.new w k [z] t
  rw [World.size_alloc]
  exact h

/-- A list of one, laid behind another new block. -/
theorem SlI.one2 (w : World) (x : Obj) (k : IntKind) (z : Int) (t : TypeId) :
    SlI ((w.alloc x).alloc (.cells #[.int k z] t)) ((w.alloc x).alloc (.cells #[.int k z] t)).heap.size k (.slice (some ⟨w.heap.size + 1, 0, none⟩) 1 1) [z] := by
  have h := SlI.one (w.alloc x) k z t
  rw [World.size_alloc (w := w)] at h
  exact h

theorem ret_int {k : IntKind} {a b : Int} (h : a = b) : Ending.returned (.int k a) = .returned (.int k b) := by rw [h]
theorem ret_bool {a b : Bool} (h : a = b) : Ending.returned (.bool a) = .returned (.bool b) := by rw [h]
theorem ret2_int {k : IntKind} {a b : Int} {c : Value} (h : a = b) : Ending.returned (.tuple #[.int k a, c]) = .returned (.tuple #[.int k b, c]) := by rw [h]
theorem ret_str {a b : List UInt8} (h : a = b) : Ending.returned (.string ⟨a.toArray⟩) = .returned (.string ⟨b.toArray⟩) := by rw [h]

theorem mk_data (S : ByteArray) : (⟨S.data.toList.toArray⟩ : ByteArray) = S := by apply ByteArray.ext; simp
theorem size_list (S : ByteArray) : S.size = S.data.toList.length := by show S.data.size = _; simp
theorem mk_append (a b : List UInt8) : (⟨a.toArray⟩ ++ ⟨b.toArray⟩ : ByteArray) = ⟨(a ++ b).toArray⟩ := by apply ByteArray.ext; simp
theorem toList_eq (S : ByteArray) : S.toList = S.data.toList := by
  have : ∀ l : List UInt8, (⟨l.toArray⟩ : ByteArray).toList = l := fun l => by simp
  rw [← this S.data.toList, mk_data]
theorem bytes_append (a b : ByteArray) : (a ++ b).data.toList = a.data.toList ++ b.data.toList := by simp
theorem size_append (a b : ByteArray) : (a ++ b).size = a.size + b.size := by
  rw [size_list, size_list, size_list, bytes_append, List.length_append]
theorem str_beq {S T : ByteArray} (h : S = T) : (S.toList == T.toList) = true := by rw [h]; simp
theorem str_bne {S T : ByteArray} (h : S ≠ T) : (S.toList == T.toList) = false := by
  rw [beq_eq_false_iff_ne]
  intro e
  rw [toList_eq, toList_eq] at e
  exact h (by rw [← mk_data S, ← mk_data T, e])

def I64 (n : Int) : Prop := -9223372036854775808 ≤ n ∧ n ≤ 9223372036854775807

theorem i64_of {n : Int} (h : (Lit.int .i64 n).wf = true) : I64 n := by
  simp [Lit.wf, IntKind.min, IntKind.max, IntKind.signed, IntKind.bits] at h
  exact h

/-- A value, as the two cells that it is. -/
abbrev val (m n : Int) : Value := .agg #[.int .i64 m, .int .i64 n]

/-- All old cells, and all old marks, read as before. -/
theorem bcell {W w1 : World} (hb : Below W.heap.size W w1) : (∀ b o, b < W.heap.size → w1.cell? ⟨b, o, none⟩ = W.cell? ⟨b, o, none⟩) ∧ (∀ b o, b < W.heap.size → w1.frozen? ⟨b, o, none⟩ = W.frozen? ⟨b, o, none⟩) :=
  ⟨fun b o h => hb.cell (p := ⟨b, o, none⟩) h, fun b o h => hb.frozen (p := ⟨b, o, none⟩) h⟩

theorem below_set2 {w w1 : World} {o : Obj} (hb : Below (w.alloc o).heap.size (w.alloc o) w1) (u v : Value) : Below w.heap.size w ((w1.setCell ⟨w.heap.size, 0, none⟩ u).setCell ⟨w.heap.size, 1, none⟩ v) :=
  ((((Below.refl _ w).alloc (Nat.le_refl _) o).trans (hb.mono (by simp))).setCell (Nat.le_refl _) _).setCell (Nat.le_refl _) _

theorem below_drewN' {B : Nat} {a w : World} (h : Below B a w) (k : Nat) : Below B a (w.drewN k) := ⟨h.os, h.tape, h.output, h.size, h.block⟩

theorem bl_alloc {w w' : World} (h : Hid (Below w.heap.size w w')) (o : Obj) : Hid (Below w.heap.size w (w'.alloc o)) := hid (h.out.alloc h.out.size o)
theorem bl_drew {w w' : World} (h : Hid (Below w.heap.size w w')) : Hid (Below w.heap.size w w'.drew) := hid (h.out.drew)
theorem bl_drewN {w w' : World} (h : Hid (Below w.heap.size w w')) (k : Nat) : Hid (Below w.heap.size w (w'.drewN k)) := hid (below_drewN' h.out k)
theorem bl_below {w w' w'' : World} (h : Hid (Below w.heap.size w w')) (hb : Below w'.heap.size w' w'') : Hid (Below w.heap.size w w'') := hid (h.out.trans (hb.mono h.out.size))

theorem heap_drew_new (w : World) (o : Obj) : (w.alloc o).drew.heap[w.heap.size]? = some o := heap_alloc_new w o

/-- A slice value whose elements are the values l, their cells below block B. -/
def SlV (w : World) (B : Nat) (v : Value) (l : List (Int × Int)) : Prop :=
  ∃ A c, v = .slice A l.length c ∧ l.length ≤ c ∧
    (0 < l.length → ∃ b o, A = some ⟨b, o, none⟩ ∧ b < B ∧ ∀ j, j < l.length → w.cell? ⟨b, o + j * 2, none⟩ = some (.int .i64 (l.getD j (0, 0)).1) ∧ w.cell? ⟨b, o + j * 2 + 1, none⟩ = some (.int .i64 (l.getD j (0, 0)).2))

theorem SlV.keep {w w' : World} {B : Nat} {v : Value} {l : List (Int × Int)} (h : SlV w B v l) (hk : ∀ b o, b < B → w'.cell? ⟨b, o, none⟩ = w.cell? ⟨b, o, none⟩) : SlV w' B v l := by
  obtain ⟨A, c, hv, hc, h⟩ := h
  refine ⟨A, c, hv, hc, fun hp => ?_⟩
  obtain ⟨b, o, hA, hb, hz⟩ := h hp
  exact ⟨b, o, hA, hb, fun j hj => ⟨(hk b _ hb).trans (hz j hj).1, (hk b _ hb).trans (hz j hj).2⟩⟩

theorem SlV.below {w w' : World} {B : Nat} {v : Value} {l : List (Int × Int)} (h : SlV w B v l) (hb : Below B w w') : SlV w' B v l := h.keep fun b o h => hb.cell (p := ⟨b, o, none⟩) h

theorem SlV.mono {w : World} {B B' : Nat} {v : Value} {l : List (Int × Int)} (h : SlV w B v l) (hB : B ≤ B') : SlV w B' v l := by
  obtain ⟨A, c, hv, hc, h⟩ := h
  refine ⟨A, c, hv, hc, fun hp => ?_⟩
  obtain ⟨b, o, hA, hb, hz⟩ := h hp
  exact ⟨b, o, hA, by omega, hz⟩

/-- A slice of values that came in. -/
structure SvIn (w : World) (v : Value) (l : List (Int × Int)) : Prop where
  row : SlV w w.heap.size v l
  fits : ∀ j, j < l.length → I64 (l.getD j (0, 0)).1 ∧ I64 (l.getD j (0, 0)).2
  most : l.length ≤ maxLen

theorem pair_of {p : Int × Int} : ∃ x y, p = (x, y) := ⟨p.1, p.2, rfl⟩

end Go.Proofs.YtfhlpbjdcdagjaaGreatDoor

namespace Go.Proofs.YtfhlpbjdcdagjaaGreatDoor
open Go.RowKit Go.Lib
set_option linter.unusedVariables false
set_option maxRecDepth 100000

/-- A decimal digit; a sign. -/
def Dig (c : UInt8) : Prop := 48 ≤ c.toNat ∧ c.toNat ≤ 57
def Sgn (c : UInt8) : Prop := c.toNat = 43 ∨ c.toNat = 45
instance (c : UInt8) : Decidable (Sgn c) := by unfold Sgn; infer_instance

theorem Dig.not_sgn {c : UInt8} (h : Dig c) : ¬ Sgn c := by unfold Dig at h; unfold Sgn; omega
theorem digit_dig {u : Nat} (h : u < 10) : (UInt8.ofNat (48 + u)).toNat = 48 + u := by
  rw [UInt8.toNat_ofNat']; omega

theorem decDigits_dig : ∀ (u : Nat), ∀ c ∈ decDigits u, Dig c := by
  intro u
  induction u using Nat.strongRecOn with
  | ind u ih =>
    intro c hc
    rw [decDigits] at hc
    split at hc
    · rename_i h
      obtain rfl := List.mem_singleton.1 hc
      unfold Dig; rw [digit_dig h]; omega
    · rename_i h
      rcases List.mem_append.1 hc with hc | hc
      · exact ih (u / 10) (by omega) c hc
      · obtain rfl := List.mem_singleton.1 hc
        unfold Dig; rw [digit_dig (by omega)]; omega

theorem decDigits_ne (u : Nat) : decDigits u ≠ [] := by
  intro h
  have h1 := decDigits_length u
  rw [h] at h1
  have := nDigits_pos u
  simp at h1; omega

theorem parse_snoc (c : UInt8) : ∀ (l : List UInt8) (acc : Nat), parseUint10 acc (l ++ [c]) = match parseUint10 acc l with | .ok v => parseUint10 v [c] | e => e
  | [], acc => by simp [parseUint10]
  | b :: l, acc => by
    have ih := fun a => parse_snoc c l a
    rw [List.cons_append]
    conv => lhs; rw [parseUint10]
    conv => rhs; rw [parseUint10]
    split
    · split
      · rfl
      · split
        · rfl
        · exact ih _
    · rfl

theorem parse_digits : ∀ (u : Nat), u < 1000000000000000000 → parseUint10 0 (decDigits u) = .ok u := by
  intro u
  induction u using Nat.strongRecOn with
  | ind u ih =>
    intro hu
    rw [decDigits]
    split
    · rename_i h
      have e := digit_dig h
      simp only [parseUint10, e]
      rw [if_pos (by omega), if_neg (by omega), if_neg (by omega)]
      congr 1; omega
    · rename_i h
      have e := digit_dig (u := u % 10) (by omega)
      rw [parse_snoc, ih (u / 10) (by omega) (by omega)]
      simp only [parseUint10, e]
      rw [if_pos (by omega), if_neg (by omega), if_neg (by omega)]
      congr 1; omega

theorem mag_digits (u : Nat) (hu : u < 1000000000000000000) : parseMag (decDigits u) = .ok u := by
  unfold parseMag; rw [if_neg (decDigits_ne u), parse_digits u hu]

/-- The sign of an imaginary part. -/
def sgn (n : Int) : UInt8 := if n < 0 then 45 else 43
theorem sgn_sgn (n : Int) : Sgn (sgn n) := by
  unfold sgn Sgn; split
  · exact .inr rfl
  · exact .inl rfl

theorem atoi_itoa (n : Int) (h0 : -1000000000000 ≤ n) (h1 : n ≤ 1000000000000) : atoiAll (itoa n) = .ok n := by
  unfold itoa
  split
  · rename_i h
    rw [atoiAll_minus, mag_digits _ (by omega)]
    unfold Lib.signed
    simp only
    rw [if_neg (by omega)]
    congr 1; omega
  · rename_i h
    have hne := decDigits_ne n.toNat
    have hd := decDigits_dig n.toNat
    have hm := mag_digits n.toNat (by omega)
    cases hc : decDigits n.toNat with
    | nil => exact absurd hc hne
    | cons c r =>
      rw [hc] at hd hm
      have := hd c (by simp)
      unfold Dig at this
      rw [atoiAll_plain c r (by omega) (by omega), hm]
      unfold signless
      simp only
      rw [if_neg (by omega)]
      congr 1; omega

theorem atoi_sgn (n : Int) (h0 : -1000000000000 ≤ n) (h1 : n ≤ 1000000000000) : atoiAll (sgn n :: decDigits n.natAbs) = .ok n := by
  unfold sgn
  split
  · rename_i h
    rw [atoiAll_minus, mag_digits _ (by omega)]
    unfold Lib.signed
    simp only
    rw [if_neg (by omega)]
    congr 1; omega
  · rename_i h
    rw [atoiAll_plus, mag_digits _ (by omega)]
    unfold signless
    simp only
    rw [if_neg (by omega)]
    congr 1; omega

def Small (n : Int) : Prop := -1000000000000 ≤ n ∧ n ≤ 1000000000000

theorem itoa_len (n : Int) (h : Small n) : (itoa n).length ≤ 21 := itoa_length_le n (by have := h.1; omega) (by have := h.2; omega)

end Go.Proofs.YtfhlpbjdcdagjaaGreatDoor

namespace Go.Proofs.YtfhlpbjdcdagjaaGreatDoor
open Go.RowKit

/-- A number's four bytes, the highest first. -/
def enc32 (n : Int) : List UInt8 :=
  [UInt8.ofNat ((n / 16777216) % 256).toNat, UInt8.ofNat ((n / 65536) % 256).toNat, UInt8.ofNat ((n / 256) % 256).toNat, UInt8.ofNat (n % 256).toNat]
def encs (l : List Int) : List UInt8 := l.flatMap enc32

theorem enc32_len (n : Int) : (enc32 n).length = 4 := rfl
theorem encs_len : ∀ l : List Int, (encs l).length = 4 * l.length
  | [] => rfl
  | n :: l => by simp only [encs, List.flatMap_cons, List.length_append, enc32_len, List.length_cons]; have := encs_len l; simp only [encs] at this; omega
theorem encs_snoc (l : List Int) (k : Nat) (h : k < l.length) : encs (l.take (k + 1)) = encs (l.take k) ++ enc32 (l.getD k 0) := by
  rw [encs, encs, List.take_succ_eq_append_getElem h, List.flatMap_append, List.flatMap_singleton, List.getD_eq_getElem?_getD, List.getElem?_eq_getElem h]
  rfl
theorem enc32_cells (z : Int) : u8s (enc32 z) = [.int .u8 (z / 16777216 % 256), .int .u8 (z / 65536 % 256), .int .u8 (z / 256 % 256), .int .u8 (z % 256)] := by
  simp only [u8s, enc32, List.map_cons, List.map_nil]
  rw [u8_val _ (by omega) (by omega), u8_val _ (by omega) (by omega), u8_val _ (by omega) (by omega), u8_val _ (by omega) (by omega)]

theorem u8info : (Tryz.prog.info? 5).map (fun i => (i.zero, i.size, i.bytes)) = some (some (.int .u8 0), 1, 1) := by kernel_rfl

def Num32 (n : Int) : Prop := -2147483648 ≤ n ∧ n ≤ 2147483647
instance (n : Int) : Decidable (Num32 n) := by unfold Num32; infer_instance

/-- The number that four bytes are. -/
def dec4 (a b c d : UInt8) : Int := (16777216 * (a.toNat : Int) + 65536 * b.toNat + 256 * c.toNat + d.toNat + 2147483648) % 4294967296 - 2147483648

theorem dec4_eq (a b c d : UInt8) : dec4 a b c d = (16777216 * (a.toNat : Int) + 65536 * b.toNat + 256 * c.toNat + d.toNat + 2147483648) % 4294967296 - 2147483648 := rfl

theorem dec4_of (p q r s : UInt8) (N : Int) (h : N = 256 * (256 * (256 * (p.toNat : Int) + q.toNat) + r.toNat) + s.toNat) : dec4 p q r s = if N < 2147483648 then N else N - 4294967296 := by
  have hp := p.toNat_lt; have hq := q.toNat_lt; have hr := r.toNat_lt; have hs := s.toNat_lt
  subst h
  unfold dec4
  split <;> omega

attribute [irreducible] dec4

theorem size_mk (l : List UInt8) : (⟨l.toArray⟩ : ByteArray).size = l.length := by show l.toArray.size = _; simp
theorem extract_mk (l : List UInt8) (a b : Nat) : (⟨l.toArray⟩ : ByteArray).extract a b = ⟨((l.take b).drop a).toArray⟩ := by
  apply ByteArray.ext
  simp [ByteArray.data_extract, List.extract_eq_take_drop, List.drop_take]

theorem quad (l : List UInt8) (h : 4 ≤ l.length) : l = l.getD 0 0 :: l.getD 1 0 :: l.getD 2 0 :: l.getD 3 0 :: l.drop 4 := by
  match l, h with
  | a :: b :: c :: d :: r, _ => rfl

theorem idx_u8 (S : ByteArray) (i : Nat) (p : UInt8) (h : S.data.toList[i]? = some p) (w : World) :
    (Instr.index 9 (.string S) (.int .i64 i)).run Tryz.prog w = .ok (.int .u8 p.toNat) w := by
  have hi : i < S.data.toList.length := by
    rcases Nat.lt_or_ge i S.data.toList.length with h1 | h1
    · exact h1
    · rw [List.getElem?_eq_none h1] at h; cases h
  have hs : i < S.size := by show i < S.data.size; simpa using hi
  rw [run_index_string _ _ _ _ _ Tryz.underlying9, dif_pos (by omega)]
  have : S[(i : Int).toNat]'(by omega) = p := by
    rw [List.getElem?_eq_getElem hi] at h
    injection h with h
  rw [this]

theorem dec4_bd (p q r s : UInt8) : -2147483648 ≤ dec4 p q r s ∧ dec4 p q r s ≤ 2147483647 := by unfold dec4; omega

/-- The first four bytes, as a number. -/
def head4 (l : List UInt8) : Int := dec4 (l.getD 0 0) (l.getD 1 0) (l.getD 2 0) (l.getD 3 0)

theorem head_enc (n : Int) (h : Num32 n) (r : List UInt8) : head4 (enc32 n ++ r) = n := by
  obtain ⟨h1, h2⟩ := h
  have e : head4 (enc32 n ++ r) = dec4 (UInt8.ofNat ((n / 16777216) % 256).toNat) (UInt8.ofNat ((n / 65536) % 256).toNat) (UInt8.ofNat ((n / 256) % 256).toNat) (UInt8.ofNat (n % 256).toNat) := rfl
  rw [e]
  unfold dec4
  rw [u8_val _ (by omega) (by omega), u8_val _ (by omega) (by omega), u8_val _ (by omega) (by omega), u8_val _ (by omega) (by omega)]
  omega

theorem encs_cons (n : Int) (l : List Int) : encs (n :: l) = enc32 n ++ encs l := by simp [encs]

theorem encs_inj : ∀ {a b : List Int}, (∀ n ∈ a, Num32 n) → (∀ n ∈ b, Num32 n) → encs a = encs b → a = b
  | [], [], _, _, _ => rfl
  | [], n :: b, _, _, h => by have := congrArg List.length h; rw [encs_len, encs_len] at this; simp at this
  | n :: a, [], _, _, h => by have := congrArg List.length h; rw [encs_len, encs_len] at this; simp at this
  | n :: a, m :: b, ha, hb, h => by
    rw [encs_cons, encs_cons] at h
    have e : n = m := by
      have := congrArg head4 h
      rw [head_enc n (ha n (by simp)), head_enc m (hb m (by simp))] at this
      exact this
    subst e
    rw [encs_inj (fun x hx => ha x (by simp [hx])) (fun x hx => hb x (by simp [hx])) (List.append_cancel_left h)]

end Go.Proofs.YtfhlpbjdcdagjaaGreatDoor

namespace Go.Proofs.YtfhlpbjdcdagjaaGreatDoor
open Go.RowKit Go.Lib
set_option linter.unusedVariables false
set_option maxRecDepth 100000

/-- The operations' names. -/
def opNames : List (List UInt8) :=
  [[72, 65, 76, 84], [80, 85, 83, 72], [80, 85, 83, 72, 73], [73, 78], [76, 79, 65, 68], [83, 84, 79, 82, 69], [65, 68, 68], [83, 85, 66], [77, 85, 76], [67, 79, 78, 74], [84, 85, 82, 78], [68, 85, 80], [83, 87, 65, 80], [68, 82, 79, 80], [69, 77, 73, 84], [74, 90], [74, 77, 80], [76, 84]]

def nameL (o : Int) : List UInt8 := opNames.getD o.toNat []

/-- From where to where an operation's number may be. -/
def loI (o : Int) : Int := if o = 1 ∨ o = 2 then -524288 else if o = 15 ∨ o = 16 then 1 else 0
def hiI (o : Int) : Int := if o = 1 ∨ o = 2 then 524287 else if o = 4 ∨ o = 5 then 1 else if o = 15 ∨ o = 16 then 24 else 0

/-- Has an operation a number in its words? -/
def numdI (o : Int) : Bool := decide (0 < hiI o)

/-- May an instruction be? -/
def rightI (x : Int × Int) : Bool := decide (0 ≤ x.1) && decide (x.1 ≤ 17) && decide (loI x.1 ≤ x.2) && decide (x.2 ≤ hiI x.1)

def fitsL (l : List (Int × Int)) : Bool := decide (l.length ≤ 24) && l.all rightI

theorem numdI_iff (o : Int) : numdI o = true ↔ o = 1 ∨ o = 2 ∨ o = 4 ∨ o = 5 ∨ o = 15 ∨ o = 16 := by
  unfold numdI hiI
  rw [decide_eq_true_eq]
  split
  · omega
  · split
    · omega
    · split <;> omega

theorem rightI_bounds {x : Int × Int} (h : rightI x = true) : 0 ≤ x.1 ∧ x.1 ≤ 17 ∧ -524288 ≤ x.2 ∧ x.2 ≤ 524287 := by
  unfold rightI at h
  simp only [Bool.and_eq_true, decide_eq_true_eq] at h
  have h1 : -524288 ≤ loI x.1 := by unfold loI; split <;> (try split) <;> omega
  have h2 : hiI x.1 ≤ 524287 := by unfold hiI; split <;> (try split) <;> (try split) <;> omega
  omega

theorem rightI_zero {x : Int × Int} (h : rightI x = true) (hn : numdI x.1 = false) : x.2 = 0 := by
  have hh : ¬ (numdI x.1 = true) := by rw [hn]; simp
  rw [numdI_iff] at hh
  unfold rightI at h
  simp only [Bool.and_eq_true, decide_eq_true_eq] at h
  have h1 : loI x.1 = 0 := by unfold loI; rw [if_neg (by omega), if_neg (by omega)]
  have h2 : hiI x.1 = 0 := by unfold hiI; rw [if_neg (by omega), if_neg (by omega), if_neg (by omega)]
  omega

theorem rightI_small {x : Int × Int} (h : rightI x = true) : Small x.2 := by
  have := rightI_bounds h
  exact ⟨by omega, by omega⟩

/-- An instruction's words. -/
def wordI (x : Int × Int) : List UInt8 := nameL x.1 ++ if numdI x.1 then 32 :: itoa x.2 else []

/-- A program's words. -/
def textL (l : List (Int × Int)) : List UInt8 := join (l.map wordI) [59, 32]

/-- What the program's Text hands back. -/
def outL (l : List (Int × Int)) : List UInt8 := if fitsL l then textL l else []

theorem textL_nil : textL [] = [] := rfl

theorem textL_one (x : Int × Int) : textL [x] = wordI x := join_one _ _

theorem textL_cons (x : Int × Int) (l : List (Int × Int)) (h : l ≠ []) : textL (x :: l) = wordI x ++ (59 :: 32 :: textL l) := by
  cases l with
  | nil => exact absurd rfl h
  | cons y r =>
    unfold textL
    rw [List.map_cons, join_cons, List.map_cons, join_cons]
    simp [joinTail]

/-- A byte that a word may have: no blank, no semicolon. -/
def Wb (c : UInt8) : Prop := c ≠ 32 ∧ c ≠ 59

instance (c : UInt8) : Decidable (Wb c) := by unfold Wb; infer_instance

theorem names_wb : ∀ n ∈ opNames, n ≠ [] ∧ n.length ≤ 5 ∧ ∀ c ∈ n, Wb c := by decide

theorem nameL_mem {o : Int} (h0 : 0 ≤ o) (h1 : o ≤ 17) : nameL o ∈ opNames := by
  unfold nameL
  have : o.toNat < opNames.length := by simp [opNames]; omega
  rw [List.getD_eq_getElem?_getD, List.getElem?_eq_getElem this]
  exact List.getElem_mem this

theorem nameL_wb {o : Int} (h0 : 0 ≤ o) (h1 : o ≤ 17) : ∀ c ∈ nameL o, Wb c := (names_wb _ (nameL_mem h0 h1)).2.2

theorem nameL_ne {o : Int} (h0 : 0 ≤ o) (h1 : o ≤ 17) : nameL o ≠ [] := (names_wb _ (nameL_mem h0 h1)).1

theorem nameL_len {o : Int} (h0 : 0 ≤ o) (h1 : o ≤ 17) : (nameL o).length ≤ 5 := (names_wb _ (nameL_mem h0 h1)).2.1

theorem itoa_wb (n : Int) : ∀ c ∈ itoa n, Wb c := by
  intro c hc
  unfold itoa at hc
  have key : ∀ u, ∀ c ∈ decDigits u, Wb c := fun u c hc => by
    have h := decDigits_dig u c hc
    unfold Dig at h
    refine ⟨?_, ?_⟩
    · rintro rfl; simp at h
    · rintro rfl; simp at h
  split at hc
  · rcases List.mem_cons.1 hc with rfl | hc
    · decide
    · exact key _ c hc
  · exact key _ c hc

theorem wordI_ne {x : Int × Int} (h : rightI x = true) : wordI x ≠ [] := by
  have hb := rightI_bounds h
  have := nameL_ne hb.1 hb.2.1
  unfold wordI
  intro e
  exact this (List.append_eq_nil_iff.1 e).1

theorem wordI_len {x : Int × Int} (h : rightI x = true) : (wordI x).length ≤ 27 := by
  have hb := rightI_bounds h
  have h1 := nameL_len hb.1 hb.2.1
  have h2 := itoa_len x.2 (rightI_small h)
  unfold wordI
  split <;> simp <;> omega

theorem textL_len : ∀ (l : List (Int × Int)), l.all rightI = true → (textL l).length ≤ 29 * l.length
  | [], _ => by simp [textL_nil]
  | [x], h => by
    rw [textL_one]
    have := wordI_len (x := x) (by simpa using h)
    simp; omega
  | x :: y :: r, h => by
    rw [textL_cons x (y :: r) (by simp)]
    rw [List.all_cons, Bool.and_eq_true] at h
    have h1 := wordI_len h.1
    have h2 := textL_len (y :: r) h.2
    simp only [List.length_append, List.length_cons] at h2 ⊢
    omega

theorem textL_ne {x : Int × Int} {l : List (Int × Int)} (h : rightI x = true) : textL (x :: l) ≠ [] := by
  have := wordI_ne h
  intro e
  cases l with
  | nil => rw [textL_one] at e; exact this e
  | cons y r => rw [textL_cons _ _ (by simp)] at e; simp at e

theorem fitsL_iff (l : List (Int × Int)) : fitsL l = true ↔ l.length ≤ 24 ∧ l.all rightI = true := by
  unfold fitsL; rw [Bool.and_eq_true, decide_eq_true_eq]

theorem textL_out {l : List (Int × Int)} (h : fitsL l = true) : outL l = textL l := if_pos h

theorem textL_out_not {l : List (Int × Int)} (h : fitsL l = false) : outL l = [] := by unfold outL; rw [h]; rfl

theorem outL_len (l : List (Int × Int)) : (outL l).length ≤ 696 := by
  cases h : fitsL l with
  | true =>
    rw [textL_out h]
    rw [fitsL_iff] at h
    have := textL_len l h.2
    omega
  | false => rw [textL_out_not h]; simp

/-- The operation of a name. -/
def opOf (n : List UInt8) : Int := match opNames.findIdx? (· == n) with
  | some i => i
  | none => -1

theorem opOf_name : ∀ o : Int, 0 ≤ o → o ≤ 17 → opOf (nameL o) = o := by
  have key : ∀ k : Fin 18, opOf (nameL ((k.val : Nat) : Int)) = ((k.val : Nat) : Int) := by decide
  intro o h0 h1
  have := key ⟨o.toNat, by omega⟩
  rwa [show (((⟨o.toNat, by omega⟩ : Fin 18).val : Nat) : Int) = o by show ((o.toNat : Nat) : Int) = o; omega] at this

/-- One word: what stands ahead of the first blank, without a semicolon at its end; and what stands behind. -/
def wordL (s : List UInt8) : List UInt8 := trimSuffix (cut s [32]).1 [59]
def restL (s : List UInt8) : List UInt8 := (cut s [32]).2.1

end Go.Proofs.YtfhlpbjdcdagjaaGreatDoor
