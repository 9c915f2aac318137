/- What all texts of this seat use: slices that read as lists, blocks, small lemmas on lists of bytes. -/
import Derived.Test.YtfohdoahddommaaDoorRows
import Derived.WalkKit
import Derived.Outline
import Derived.WalkSpells
import Derived.WalkLawsBesides
import Derived.OpenShut
import Derived.SliceStrings
import Derived.SizedLaws
namespace Go.Proofs.YtfohdoahddommaaDoor
open Go.RowKit

theorem hid {p : Prop} (h : p) : Hid p := h

theorem addr_add (b o j : Nat) : (⟨b, o, none⟩ : Addr).add j = ⟨b, o + j, none⟩ := by
  unfold Addr.add; split <;> simp_all

/-- A slice value whose elements are the integers zs of kind k, its row below block B. -/
def SlI (w : World) (B : Nat) (k : IntKind) (v : Value) (zs : List Int) : Prop :=
  ∃ A c, v = .slice A zs.length c ∧ zs.length ≤ c ∧
    (0 < zs.length → ∃ b o, A = some ⟨b, o, none⟩ ∧ b < B ∧ ∀ j, j < zs.length → w.cell? ⟨b, o + j, none⟩ = some (.int k (zs.getD j 0)))

section
variable {w w' : World} {B : Nat} {k : IntKind} {v : Value} {zs : List Int}

theorem SlI.keep (h : SlI w B k v zs) (hk : ∀ b o, b < B → w'.cell? ⟨b, o, none⟩ = w.cell? ⟨b, o, none⟩) : SlI w' B k v zs := by
  obtain ⟨A, c, hv, hc, h⟩ := h
  refine ⟨A, c, hv, hc, fun hp => ?_⟩
  obtain ⟨b, o, hA, hb, hz⟩ := h hp
  exact ⟨b, o, hA, hb, fun j hj => (hk b _ hb).trans (hz j hj)⟩

theorem SlI.below (h : SlI w B k v zs) (hb : Below B w w') : SlI w' B k v zs := h.keep fun b o h => hb.cell (p := ⟨b, o, none⟩) h

theorem SlI.mono {B' : Nat} (h : SlI w B k v zs) (hB : B ≤ B') : SlI w B' k v zs := by
  obtain ⟨A, c, hv, hc, h⟩ := h
  refine ⟨A, c, hv, hc, fun hp => ?_⟩
  obtain ⟨b, o, hA, hb, hz⟩ := h hp
  exact ⟨b, o, hA, by omega, hz⟩
end

/-- A slice of integers that came in: all its elements fit their kind. -/
structure SlIn (w : World) (k : IntKind) (v : Value) (zs : List Int) : Prop where
  row : SlI w w.heap.size k v zs
  fits : ∀ n ∈ zs, (Lit.int k n).wf = true
  most : zs.length ≤ maxLen

theorem SlIn.none_ (w : World) (k : IntKind) : SlIn w k (.slice none 0 0) [] := ⟨⟨_, _, rfl, Nat.le_refl _, fun h => absurd h (by simp)⟩, by simp, by simp⟩

theorem SlIn.of_row {w : World} {k : IntKind} {a : Addr} {len cap : Nat} {zs : List Int} (hl : len ≤ cap) (hm : cap ≤ maxLen) (hz : zs.length = cap)
    (hc : ∀ i, i < zs.length → w.cell? (a.add i) = some (.int k (zs.getD i 0))) (hw : ∀ n ∈ zs, (Lit.int k n).wf = true) : SlIn w k (.slice (some a) len cap) (zs.take len) := by
  have e : (zs.take len).length = len := by rw [List.length_take]; omega
  refine ⟨⟨some a, cap, by rw [e], by rw [e]; exact hl, fun hp => ?_⟩, fun n hn => hw n (List.mem_of_mem_take hn), by rw [e]; omega⟩
  rw [e] at hp ⊢
  obtain ⟨b, off, spot⟩ := a
  have h0 := hc 0 (by omega)
  have hspot : spot = none := by simpa [Addr.add] using World.cell?_spot h0
  subst hspot
  refine ⟨b, off, rfl, ?_, fun j hj => ?_⟩
  · exact World.block_lt_of_cell? w ⟨b, off, none⟩ (by simpa [Addr.add] using h0)
  · have := hc j (by omega)
    rw [addr_add] at this
    rw [this]
    congr 2
    simp [List.getD_eq_getElem?_getD, hj]

/-- One new block of integers, as a slice over all of it. -/
theorem SlI.new (w : World) (k : IntKind) (zs : List Int) (t : TypeId) :
    SlI (w.alloc (.cells (zs.map (Value.int k)).toArray t)) (w.heap.size + 1) k (.slice (some ⟨w.heap.size, 0, none⟩) zs.length zs.length) zs := by
  refine ⟨_, _, rfl, Nat.le_refl _, fun _ => ⟨_, 0, rfl, by omega, fun j hj => ?_⟩⟩
  simp [World.cell?_alloc_new, hj]

/-- A slice value whose elements are the strings ls, its row below block B. -/
def SlS (w : World) (B : Nat) (v : Value) (ls : List ByteArray) : Prop :=
  ∃ A c, v = .slice A ls.length c ∧ ls.length ≤ c ∧
    (0 < ls.length → ∃ b o, A = some ⟨b, o, none⟩ ∧ b < B ∧ ∀ j S, ls[j]? = some S → w.cell? ⟨b, o + j, none⟩ = some (.string S))

theorem SlS.keep {w w' : World} {B : Nat} {v : Value} {ls : List ByteArray} (h : SlS w B v ls) (hk : ∀ b o, b < B → w'.cell? ⟨b, o, none⟩ = w.cell? ⟨b, o, none⟩) : SlS w' B v ls := by
  obtain ⟨A, c, hv, hc, h⟩ := h
  refine ⟨A, c, hv, hc, fun hp => ?_⟩
  obtain ⟨b, o, hA, hb, hz⟩ := h hp
  exact ⟨b, o, hA, hb, fun j S hj => (hk b _ hb).trans (hz j S hj)⟩

theorem SlS.below {w w' : World} {B : Nat} {v : Value} {ls : List ByteArray} (h : SlS w B v ls) (hb : Below B w w') : SlS w' B v ls := h.keep fun b o h => hb.cell (p := ⟨b, o, none⟩) h

theorem SlS.mono {w : World} {B B' : Nat} {v : Value} {ls : List ByteArray} (h : SlS w B v ls) (hB : B ≤ B') : SlS w B' v ls := by
  obtain ⟨A, c, hv, hc, h⟩ := h
  refine ⟨A, c, hv, hc, fun hp => ?_⟩
  obtain ⟨b, o, hA, hb, hz⟩ := h hp
  exact ⟨b, o, hA, by omega, hz⟩

/-- One new block of strings, as a slice over all of it. -/
theorem SlS.new (w : World) (ls : List ByteArray) (t : TypeId) :
    SlS (w.alloc (.cells (ls.map Value.string).toArray t)) (w.alloc (.cells (ls.map Value.string).toArray t)).heap.size (.slice (some ⟨w.heap.size, 0, none⟩) ls.length ls.length) ls := by
  refine ⟨_, _, rfl, Nat.le_refl _, fun _ => ⟨_, 0, rfl, by simp, fun j S hj => ?_⟩⟩
  simp [World.cell?_alloc_new, hj]

/-- A slice of strings that came in. -/
structure SsIn (w : World) (v : Value) (ls : List ByteArray) : Prop where
  row : SlS w w.heap.size v ls
  fits : ∀ S ∈ ls, S.size ≤ 140737488351232
  most : ls.length ≤ 140737488351232

theorem SsIn.none_ (w : World) : SsIn w (.slice none 0 0) [] := ⟨⟨_, _, rfl, Nat.le_refl _, fun h => absurd h (by simp)⟩, by simp, by simp⟩

theorem SsIn.of_row {w : World} {a : Addr} {len cap : Nat} {ss : List ByteArray} (hl : len ≤ cap) (hz : ss.length = cap)
    (hc : ∀ i, i < ss.length → w.cell? (a.add i) = some (.string (ss.getD i ByteArray.empty))) (hw : ∀ S ∈ ss, S.size ≤ 140737488351232) (hm : ss.length ≤ 140737488351232) : SsIn w (.slice (some a) len cap) (ss.take len) := by
  have e : (ss.take len).length = len := by rw [List.length_take]; omega
  refine ⟨⟨some a, cap, by rw [e], by rw [e]; exact hl, fun hp => ?_⟩, fun n hn => hw n (List.mem_of_mem_take hn), by rw [e]; omega⟩
  rw [e] at hp
  obtain ⟨b, off, spot⟩ := a
  have h0 := hc 0 (by omega)
  have hspot : spot = none := by simpa [Addr.add] using World.cell?_spot h0
  subst hspot
  refine ⟨b, off, rfl, ?_, fun j S hj => ?_⟩
  · exact World.block_lt_of_cell? w ⟨b, off, none⟩ (by simpa [Addr.add] using h0)
  · have hj' : j < len := by
      rcases Nat.lt_or_ge j len with h1 | h1
      · exact h1
      · rw [List.getElem?_eq_none (by omega)] at hj; cases hj
    have := hc j (by omega)
    rw [addr_add] at this
    rw [this]
    rw [List.getElem?_take_of_lt hj'] at hj
    simp [List.getD_eq_getElem?_getD, hj]

theorem weights_strs {H : Type} {P : Program} {e : TypeId} : ∀ {l : List ByteArray} {S : ByteArray}, S ∈ l → S.size ∈ DataW.weightsAll (H := H) P e (ChangeShapes.strs l)
  | [], _, h => by cases h
  | T :: l, S, h => by
    simp only [ChangeShapes.strs, List.map_cons, DataW.weightsAll, List.mem_append]
    rcases List.mem_cons.1 h with rfl | h
    · left; simp [DataW.weights]
    · right; exact weights_strs h

theorem sized_strs {H : Type} {P : Program} {ts : List TypeId} {ds : List (DataW H)} (h : (DataW.weightsEach P ts ds).all (· ≤ reachBytes) = true) {j : Nat} {t e : TypeId} {ss : List ByteArray} {len : Nat}
    (ht : ts[j]? = some t) (hd : ds[j]? = some (.slice (ChangeShapes.strs (ss.take len)) (ChangeShapes.strs (ss.drop len)))) (hu : P.underlying t = some (.slice e)) (hb : P.bytesOf e = 16) : (∀ S ∈ ss, S.size ≤ 140737488351232) ∧ ss.length ≤ 140737488351232 := by
  refine ⟨fun S hS => ?_, ?_⟩
  · have hm : S.size ∈ (DataW.slice (ChangeShapes.strs (ss.take len)) (ChangeShapes.strs (ss.drop len)) : DataW H).weights P t := by
      simp only [DataW.weights, hu, List.mem_cons, List.mem_append]
      right
      rw [← List.take_append_drop len ss] at hS
      rcases List.mem_append.1 hS with hS | hS
      · exact .inl (weights_strs hS)
      · exact .inr (weights_strs hS)
    have := List.all_eq_true.1 h _ (DataW.weights_mem_each ht hd _ hm)
    exact of_decide_eq_true this
  · have := sized_slice h ht hd hu
    rw [hb] at this
    simp only [ChangeShapes.strs, List.length_map, List.length_take, List.length_drop, reachBytes] at this
    omega

/-- The cells of a block that has just been laid. -/
theorem new_cells (w : World) (cs : Array Value) (t : TypeId) : ∀ j u, cs[j]? = some u → (w.alloc (.cells cs t)).cell? ((⟨w.heap.size, 0, none⟩ : Addr).add j) = some u := by
  intro j u hu
  rw [addr_add]
  simpa [World.cell?_alloc_new] using hu

/-- Only block g, and what is new, has turned. -/
theorem turned_refl (w : World) (r : Option Nat) : w.grownBy w r := ⟨rfl, rfl, rfl, Nat.le_refl _, fun _ _ _ => rfl⟩
theorem turned_alloc {a w : World} {r : Option Nat} (h : a.grownBy w r) (o : Obj) : a.grownBy (w.alloc o) r :=
  ⟨h.os, h.tape, h.output, Nat.le_trans h.size (by simp), fun i hi hne => (Below.heap_alloc w o i (Nat.lt_of_lt_of_le hi h.size)).trans (h.block i hi hne)⟩
theorem turned_set {a w : World} {g : Nat} (h : a.grownBy w (some g)) {p : Addr} (hp : p.block = g ∨ a.heap.size ≤ p.block) (u : Value) : a.grownBy (w.setCell p u) (some g) := by
  refine ⟨h.os, h.tape, h.output, by simpa [World.setCell] using h.size, fun i hi hne => (Below.heap_setCell w p u i ?_).trans (h.block i hi hne)⟩
  rintro rfl
  rcases hp with hp | hp
  · exact hne (by rw [hp])
  · omega
theorem turned_drew {a w : World} {r : Option Nat} (h : a.grownBy w r) : a.grownBy w.drew r := ⟨h.os, h.tape, h.output, h.size, h.block⟩
theorem turned_drewN {a w : World} {r : Option Nat} (h : a.grownBy w r) (n : Nat) : a.grownBy (w.drewN n) r := ⟨h.os, h.tape, h.output, h.size, h.block⟩
theorem turned_below {a w : World} (h : Below a.heap.size a w) (r : Option Nat) : a.grownBy w r := ⟨h.os, h.tape, h.output, h.size, fun i hi _ => h.block i hi⟩
theorem turned_trans {a b c : World} {r : Option Nat} (h : a.grownBy b r) (k : b.grownBy c r) : a.grownBy c r :=
  ⟨k.os.trans h.os, k.tape.trans h.tape, k.output.trans h.output, Nat.le_trans h.size k.size, fun i hi hne => (k.block i (Nat.lt_of_lt_of_le hi h.size) hne).trans (h.block i hi hne)⟩
theorem turned_new {a w : World} {g : Nat} (h : a.grownBy w (some g)) (hg : a.heap.size ≤ g) : Below a.heap.size a w :=
  ⟨h.os, h.tape, h.output, h.size, fun k hk => h.block k hk (by intro e; injection e with e; omega)⟩
theorem turned_below_of {B g : Nat} {a w : World} (h : a.grownBy w (some g)) (hB : B ≤ a.heap.size) (hg : B ≤ g) : Below B a w :=
  ⟨h.os, h.tape, h.output, h.size, fun k hk => h.block k (by omega) (by intro e; injection e with e; omega)⟩

def u8s (l : List UInt8) : List Value := l.map fun b => .int .u8 b.toNat
theorem u8s_append (a b : List UInt8) : u8s (a ++ b) = u8s a ++ u8s b := by simp [u8s]
theorem u8s_length (a : List UInt8) : (u8s a).length = a.length := by simp [u8s]
theorem u8s_one (l : List UInt8) : ∀ u ∈ u8s l, u.oneCell' = true := by
  intro u hu
  simp only [u8s, List.mem_map] at hu
  obtain ⟨b, _, rfl⟩ := hu
  rfl
theorem strOfNums_u8 (l : List UInt8) : strOfNums (l.map fun b => (b.toNat : Int)) = ⟨l.toArray⟩ := by
  simp [strOfNums, Function.comp_def]
theorem ret_sn (l : List UInt8) : Ending.returned (.string (strOfNums (l.map fun b => (b.toNat : Int)))) = .returned (.string ⟨l.toArray⟩) := by rw [strOfNums_u8]
theorem u8_val (n : Int) (h0 : 0 ≤ n) (h1 : n < 256) : ((UInt8.ofNat n.toNat).toNat : Int) = n := by
  rw [UInt8.toNat_ofNat']; omega

theorem SlI.one (w : World) (k : IntKind) (z : Int) (t : TypeId) :
    SlI (w.alloc (.cells #[.int k z] t)) (w.alloc (.cells #[.int k z] t)).heap.size k (.slice (some ⟨w.heap.size, 0, none⟩) 1 1) [z] := by
  have h := SlI.new w k [z] t
  rw [World.size_alloc]
  exact h

/-- A list of one, laid behind another new block. -/
theorem SlI.one2 (w : World) (x : Obj) (k : IntKind) (z : Int) (t : TypeId) :
    SlI ((w.alloc x).alloc (.cells #[.int k z] t)) ((w.alloc x).alloc (.cells #[.int k z] t)).heap.size k (.slice (some ⟨w.heap.size + 1, 0, none⟩) 1 1) [z] := by
  have h := SlI.one (w.alloc x) k z t
  rw [World.size_alloc (w := w)] at h
  exact h

theorem ret_int {k : IntKind} {a b : Int} (h : a = b) : Ending.returned (.int k a) = .returned (.int k b) := by rw [h]
theorem ret_bool {a b : Bool} (h : a = b) : Ending.returned (.bool a) = .returned (.bool b) := by rw [h]
theorem ret2_int {k : IntKind} {a b : Int} {c : Value} (h : a = b) : Ending.returned (.tuple #[.int k a, c]) = .returned (.tuple #[.int k b, c]) := by rw [h]
theorem ret_str {a b : List UInt8} (h : a = b) : Ending.returned (.string ⟨a.toArray⟩) = .returned (.string ⟨b.toArray⟩) := by rw [h]

theorem mk_data (S : ByteArray) : (⟨S.data.toList.toArray⟩ : ByteArray) = S := by apply ByteArray.ext; simp
theorem size_list (S : ByteArray) : S.size = S.data.toList.length := by show S.data.size = _; simp
theorem mk_append (a b : List UInt8) : (⟨a.toArray⟩ ++ ⟨b.toArray⟩ : ByteArray) = ⟨(a ++ b).toArray⟩ := by apply ByteArray.ext; simp
theorem toList_eq (S : ByteArray) : S.toList = S.data.toList := by
  have : ∀ l : List UInt8, (⟨l.toArray⟩ : ByteArray).toList = l := fun l => by simp
  rw [← this S.data.toList, mk_data]
theorem bytes_append (a b : ByteArray) : (a ++ b).data.toList = a.data.toList ++ b.data.toList := by simp
theorem size_append (a b : ByteArray) : (a ++ b).size = a.size + b.size := by
  rw [size_list, size_list, size_list, bytes_append, List.length_append]
theorem str_beq {S T : ByteArray} (h : S = T) : (S.toList == T.toList) = true := by rw [h]; simp
theorem str_bne {S T : ByteArray} (h : S ≠ T) : (S.toList == T.toList) = false := by
  rw [beq_eq_false_iff_ne]
  intro e
  rw [toList_eq, toList_eq] at e
  exact h (by rw [← mk_data S, ← mk_data T, e])

def I64 (n : Int) : Prop := -9223372036854775808 ≤ n ∧ n ≤ 9223372036854775807

theorem i64_of {n : Int} (h : (Lit.int .i64 n).wf = true) : I64 n := by
  simp [Lit.wf, IntKind.min, IntKind.max, IntKind.signed, IntKind.bits] at h
  exact h

/-- A value, as the two cells that it is. -/
abbrev val (m n : Int) : Value := .agg #[.int .i64 m, .int .i64 n]

/-- All old cells, and all old marks, read as before. -/
theorem bcell {W w1 : World} (hb : Below W.heap.size W w1) : (∀ b o, b < W.heap.size → w1.cell? ⟨b, o, none⟩ = W.cell? ⟨b, o, none⟩) ∧ (∀ b o, b < W.heap.size → w1.frozen? ⟨b, o, none⟩ = W.frozen? ⟨b, o, none⟩) :=
  ⟨fun b o h => hb.cell (p := ⟨b, o, none⟩) h, fun b o h => hb.frozen (p := ⟨b, o, none⟩) h⟩

theorem below_set2 {w w1 : World} {o : Obj} (hb : Below (w.alloc o).heap.size (w.alloc o) w1) (u v : Value) : Below w.heap.size w ((w1.setCell ⟨w.heap.size, 0, none⟩ u).setCell ⟨w.heap.size, 1, none⟩ v) :=
  ((((Below.refl _ w).alloc (Nat.le_refl _) o).trans (hb.mono (by simp))).setCell (Nat.le_refl _) _).setCell (Nat.le_refl _) _

theorem below_drewN' {B : Nat} {a w : World} (h : Below B a w) (k : Nat) : Below B a (w.drewN k) := ⟨h.os, h.tape, h.output, h.size, h.block⟩

theorem bl_alloc {w w' : World} (h : Hid (Below w.heap.size w w')) (o : Obj) : Hid (Below w.heap.size w (w'.alloc o)) := hid (h.out.alloc h.out.size o)
theorem bl_drew {w w' : World} (h : Hid (Below w.heap.size w w')) : Hid (Below w.heap.size w w'.drew) := hid (h.out.drew)
theorem bl_drewN {w w' : World} (h : Hid (Below w.heap.size w w')) (k : Nat) : Hid (Below w.heap.size w (w'.drewN k)) := hid (below_drewN' h.out k)
theorem bl_below {w w' w'' : World} (h : Hid (Below w.heap.size w w')) (hb : Below w'.heap.size w' w'') : Hid (Below w.heap.size w w'') := hid (h.out.trans (hb.mono h.out.size))

theorem heap_drew_new (w : World) (o : Obj) : (w.alloc o).drew.heap[w.heap.size]? = some o := heap_alloc_new w o

/-- A slice value whose elements are the values l, their cells below block B. -/
def SlV (w : World) (B : Nat) (v : Value) (l : List (Int × Int)) : Prop :=
  ∃ A c, v = .slice A l.length c ∧ l.length ≤ c ∧
    (0 < l.length → ∃ b o, A = some ⟨b, o, none⟩ ∧ b < B ∧ ∀ j, j < l.length → w.cell? ⟨b, o + j * 2, none⟩ = some (.int .i64 (l.getD j (0, 0)).1) ∧ w.cell? ⟨b, o + j * 2 + 1, none⟩ = some (.int .i64 (l.getD j (0, 0)).2))

theorem SlV.keep {w w' : World} {B : Nat} {v : Value} {l : List (Int × Int)} (h : SlV w B v l) (hk : ∀ b o, b < B → w'.cell? ⟨b, o, none⟩ = w.cell? ⟨b, o, none⟩) : SlV w' B v l := by
  obtain ⟨A, c, hv, hc, h⟩ := h
  refine ⟨A, c, hv, hc, fun hp => ?_⟩
  obtain ⟨b, o, hA, hb, hz⟩ := h hp
  exact ⟨b, o, hA, hb, fun j hj => ⟨(hk b _ hb).trans (hz j hj).1, (hk b _ hb).trans (hz j hj).2⟩⟩

theorem SlV.below {w w' : World} {B : Nat} {v : Value} {l : List (Int × Int)} (h : SlV w B v l) (hb : Below B w w') : SlV w' B v l := h.keep fun b o h => hb.cell (p := ⟨b, o, none⟩) h

theorem SlV.mono {w : World} {B B' : Nat} {v : Value} {l : List (Int × Int)} (h : SlV w B v l) (hB : B ≤ B') : SlV w B' v l := by
  obtain ⟨A, c, hv, hc, h⟩ := h
  refine ⟨A, c, hv, hc, fun hp => ?_⟩
  obtain ⟨b, o, hA, hb, hz⟩ := h hp
  exact ⟨b, o, hA, by omega, hz⟩

/-- A slice of values that came in. -/
structure SvIn (w : World) (v : Value) (l : List (Int × Int)) : Prop where
  row : SlV w w.heap.size v l
  fits : ∀ j, j < l.length → I64 (l.getD j (0, 0)).1 ∧ I64 (l.getD j (0, 0)).2
  most : l.length ≤ maxLen

theorem pair_of {p : Int × Int} : ∃ x y, p = (x, y) := ⟨p.1, p.2, rfl⟩

end Go.Proofs.YtfohdoahddommaaDoor
