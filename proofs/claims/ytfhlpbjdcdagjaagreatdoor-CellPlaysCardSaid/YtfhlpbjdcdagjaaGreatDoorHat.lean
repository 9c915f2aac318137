/- Layer 7, cell: CellApart. -/
import Derived.Test.YtfhlpbjdcdagjaaGreatDoorHas
import Derived.Test.YtfhlpbjdcdagjaaGreatDoorHah
import Derived.Deep.LoopGhost
namespace Go.Proofs.YtfhlpbjdcdagjaaGreatDoor
open Go.RowKit Go.Lib Go.MapKept
open Go.Sort (grow)
set_option linter.unusedVariables false
set_option maxRecDepth 100000

/-- Two tables share nothing. -/
structure CApart (ta : Nat) (ma : Option Nat) (tb : Nat) (mb : Option Nat) : Prop where
  ne : ta ≠ tb
  a : ma ≠ some tb
  b : mb ≠ some ta
  c : ∀ z, ma = some z → mb ≠ some z

theorem CApart.symm {ta tb : Nat} {ma mb : Option Nat} (h : CApart ta ma tb mb) : CApart tb mb ta ma := ⟨h.ne.symm, h.b, h.a, fun z h1 h2 => h.c z h2 h1⟩

theorem CApart.foot_ok {ta tb : Nat} {ma mb : Option Nat} (h : CApart ta ma tb mb) : foot ta ma ≠ tb ∧ mb ≠ some (foot ta ma) := by
  cases ma with
  | none => exact ⟨h.ne, h.b⟩
  | some z => exact ⟨fun e => h.a (by rw [← e]; rfl), h.c z rfl⟩

theorem CApart.step {w : World} {ta tb : Nat} {ma ma' mb : Option Nat} {D : CTab} (h : CApart ta ma tb mb) (hb : TabAt w tb mb D) (hm : ma' = ma ∨ (ma = none ∧ ∃ z, ma' = some z ∧ w.heap.size ≤ z)) : CApart ta ma' tb mb := by
  rcases hm with rfl | ⟨_, z, rfl, hz⟩
  · exact h
  · have h1 := hb.lt
    have h2 := hb.mlt
    refine ⟨h.ne, fun e => ?_, h.b, fun y e1 e2 => ?_⟩
    · injection e with e; omega
    · injection e1 with e1
      have := h2 y e2
      omega

theorem CApart.new {w : World} {ta tb : Nat} {ma mb : Option Nat} {D D' : CTab} {w' : World} (ha : TabAt w ta ma D) (hb : TabN w.heap.size w' tb mb D') : CApart ta ma tb mb := by
  have h1 := ha.lt
  have h2 := ha.mlt
  have h3 := hb.le
  have h4 := hb.mle
  refine ⟨by omega, fun e => ?_, fun e => ?_, fun z e1 e2 => ?_⟩
  · have := h2 _ e; omega
  · have := h4 _ e; omega
  · have := h2 z e1; have := h4 z e2; omega

theorem SlR.turned {w w' : World} {tb : Nat} {m : Option Nat} {D : CTab} {v : Value} {l : List Rec3} (h : SlR w w.heap.size v l) (ht : TabAt w tb m D) (hg : w.grownBy w' (some (foot tb m))) : SlR w' w'.heap.size v l := by
  obtain ⟨A, c, hv, hc, h⟩ := h
  refine ⟨A, c, hv, hc, fun hp => ?_⟩
  obtain ⟨b, o, hA, hb, hx⟩ := h hp
  have hne := ht.no_int (hx 0 hp).c0
  have hk := hg.block b hb (fun e => hne (by injection e))
  exact ⟨b, o, hA, Nat.lt_of_lt_of_le hb hg.size, fun j hj => (hx j hj).keep fun o => World.cell?_of_block (a := ⟨b, o, none⟩) hk⟩

theorem SlR.up {w w' : World} {v : Value} {l : List Rec3} (h : SlR w w.heap.size v l) (hb : Below w.heap.size w w') : SlR w' w'.heap.size v l := by
  obtain ⟨A, c, hv, hc, h⟩ := h.below hb
  refine ⟨A, c, hv, hc, fun hp => ?_⟩
  obtain ⟨b, o, hA, hbb, hx⟩ := h hp
  exact ⟨b, o, hA, Nat.lt_of_lt_of_le hbb hb.size, hx⟩

/-- A box of two records. -/
structure Bx6 (w : World) (g : Nat) (k x y k' x' y' : Int) : Prop where
  lt : g < w.heap.size
  q0 : w.cell? ⟨g, 0, none⟩ = some (.int .i64 k)
  q1 : w.cell? ⟨g, 1, none⟩ = some (.int .i64 x)
  q2 : w.cell? ⟨g, 2, none⟩ = some (.int .i64 y)
  q3 : w.cell? ⟨g, 3, none⟩ = some (.int .i64 k')
  q4 : w.cell? ⟨g, 4, none⟩ = some (.int .i64 x')
  q5 : w.cell? ⟨g, 5, none⟩ = some (.int .i64 y')

theorem Bx6.below {B : Nat} {w w' : World} {g : Nat} {k x y k' x' y' : Int} (h : Bx6 w g k x y k' x' y') (hb : Below B w w') (hg : g < B) : Bx6 w' g k x y k' x' y' := by
  have hc := fun o => hb.cell (p := ⟨g, o, none⟩) hg
  exact ⟨Nat.lt_of_lt_of_le h.lt hb.size, (hc _).trans h.q0, (hc _).trans h.q1, (hc _).trans h.q2, (hc _).trans h.q3, (hc _).trans h.q4, (hc _).trans h.q5⟩

theorem box6 (w : World) (k x y k' x' y' : Int) (t : TypeId) : ∃ W : World, w.alloc (.cells #[.int .i64 k, .int .i64 x, .int .i64 y, .int .i64 k', .int .i64 x', .int .i64 y'] t) = W ∧ Hid (Below w.heap.size w W) ∧ Hid (Bx6 W w.heap.size k x y k' x' y') :=
  ⟨_, rfl, hid ((Below.refl _ w).alloc (Nat.le_refl _) _), hid ⟨by simp, by simp [World.cell?_alloc_new], by simp [World.cell?_alloc_new], by simp [World.cell?_alloc_new], by simp [World.cell?_alloc_new], by simp [World.cell?_alloc_new], by simp [World.cell?_alloc_new]⟩⟩

/-- What the last loop's frame keeps. -/
structure FrY (g ta : Nat) (v127 : Value) (n128 i : Int) (x162 : Value) (a : Act) : Prop where
  size : a.tmps.size = 164
  defers : a.defers = []
  t5 : a.tmps.getD 5 undef = .pointer (some ⟨g, 0, none⟩)
  t7 : a.tmps.getD 7 undef = tabV ta
  t127 : a.tmps.getD 127 undef = v127
  t128 : a.tmps.getD 128 undef = .int .i64 n128
  t129 : a.tmps.getD 129 undef = .int .i64 i
  t162 : a.tmps.getD 162 undef = x162

theorem FrY.open_ {g ta : Nat} {v127 : Value} {n128 i : Int} {x162 : Value} {a : Act} (h : FrY g ta v127 n128 i x162 a) : ∃ u : Nat → Value, a = ⟨(u 0 :: u 1 :: u 2 :: u 3 :: u 4 :: .pointer (some ⟨g, 0, none⟩) :: u 6 :: tabV ta :: u 8 :: u 9 :: u 10 :: u 11 :: u 12 :: u 13 :: u 14 :: u 15 :: u 16 :: u 17 :: u 18 :: u 19 :: u 20 :: u 21 :: u 22 :: u 23 :: u 24 :: u 25 :: u 26 :: u 27 :: u 28 :: u 29 :: u 30 :: u 31 :: u 32 :: u 33 :: u 34 :: u 35 :: u 36 :: u 37 :: u 38 :: u 39 :: u 40 :: u 41 :: u 42 :: u 43 :: u 44 :: u 45 :: u 46 :: u 47 :: u 48 :: u 49 :: u 50 :: u 51 :: u 52 :: u 53 :: u 54 :: u 55 :: u 56 :: u 57 :: u 58 :: u 59 :: u 60 :: u 61 :: u 62 :: u 63 :: u 64 :: u 65 :: u 66 :: u 67 :: u 68 :: u 69 :: u 70 :: u 71 :: u 72 :: u 73 :: u 74 :: u 75 :: u 76 :: u 77 :: u 78 :: u 79 :: u 80 :: u 81 :: u 82 :: u 83 :: u 84 :: u 85 :: u 86 :: u 87 :: u 88 :: u 89 :: u 90 :: u 91 :: u 92 :: u 93 :: u 94 :: u 95 :: u 96 :: u 97 :: u 98 :: u 99 :: u 100 :: u 101 :: u 102 :: u 103 :: u 104 :: u 105 :: u 106 :: u 107 :: u 108 :: u 109 :: u 110 :: u 111 :: u 112 :: u 113 :: u 114 :: u 115 :: u 116 :: u 117 :: u 118 :: u 119 :: u 120 :: u 121 :: u 122 :: u 123 :: u 124 :: u 125 :: u 126 :: v127 :: .int .i64 n128 :: .int .i64 i :: u 130 :: u 131 :: u 132 :: u 133 :: u 134 :: u 135 :: u 136 :: u 137 :: u 138 :: u 139 :: u 140 :: u 141 :: u 142 :: u 143 :: u 144 :: u 145 :: u 146 :: u 147 :: u 148 :: u 149 :: u 150 :: u 151 :: u 152 :: u 153 :: u 154 :: u 155 :: u 156 :: u 157 :: u 158 :: u 159 :: u 160 :: u 161 :: x162 :: u 163 :: []).toArray, []⟩ := by
  obtain ⟨hn, hd, h5, h7, h127, h128, h129, h162⟩ := h
  obtain ⟨u, hu⟩ : ∃ u : Nat → Value, u = fun k => a.tmps.getD k undef := ⟨_, rfl⟩
  have ha : a = ⟨(u 0 :: u 1 :: u 2 :: u 3 :: u 4 :: u 5 :: u 6 :: u 7 :: u 8 :: u 9 :: u 10 :: u 11 :: u 12 :: u 13 :: u 14 :: u 15 :: u 16 :: u 17 :: u 18 :: u 19 :: u 20 :: u 21 :: u 22 :: u 23 :: u 24 :: u 25 :: u 26 :: u 27 :: u 28 :: u 29 :: u 30 :: u 31 :: u 32 :: u 33 :: u 34 :: u 35 :: u 36 :: u 37 :: u 38 :: u 39 :: u 40 :: u 41 :: u 42 :: u 43 :: u 44 :: u 45 :: u 46 :: u 47 :: u 48 :: u 49 :: u 50 :: u 51 :: u 52 :: u 53 :: u 54 :: u 55 :: u 56 :: u 57 :: u 58 :: u 59 :: u 60 :: u 61 :: u 62 :: u 63 :: u 64 :: u 65 :: u 66 :: u 67 :: u 68 :: u 69 :: u 70 :: u 71 :: u 72 :: u 73 :: u 74 :: u 75 :: u 76 :: u 77 :: u 78 :: u 79 :: u 80 :: u 81 :: u 82 :: u 83 :: u 84 :: u 85 :: u 86 :: u 87 :: u 88 :: u 89 :: u 90 :: u 91 :: u 92 :: u 93 :: u 94 :: u 95 :: u 96 :: u 97 :: u 98 :: u 99 :: u 100 :: u 101 :: u 102 :: u 103 :: u 104 :: u 105 :: u 106 :: u 107 :: u 108 :: u 109 :: u 110 :: u 111 :: u 112 :: u 113 :: u 114 :: u 115 :: u 116 :: u 117 :: u 118 :: u 119 :: u 120 :: u 121 :: u 122 :: u 123 :: u 124 :: u 125 :: u 126 :: u 127 :: u 128 :: u 129 :: u 130 :: u 131 :: u 132 :: u 133 :: u 134 :: u 135 :: u 136 :: u 137 :: u 138 :: u 139 :: u 140 :: u 141 :: u 142 :: u 143 :: u 144 :: u 145 :: u 146 :: u 147 :: u 148 :: u 149 :: u 150 :: u 151 :: u 152 :: u 153 :: u 154 :: u 155 :: u 156 :: u 157 :: u 158 :: u 159 :: u 160 :: u 161 :: u 162 :: u 163 :: []).toArray, a.defers⟩ := by
    rw [hu]; exact frame_eq hn
  have e5 : u 5 = _ := (congrFun hu 5).trans h5
  have e7 : u 7 = _ := (congrFun hu 7).trans h7
  have e127 : u 127 = _ := (congrFun hu 127).trans h127
  have e128 : u 128 = _ := (congrFun hu 128).trans h128
  have e129 : u 129 = _ := (congrFun hu 129).trans h129
  have e162 : u 162 = _ := (congrFun hu 162).trans h162
  rw [e5, e7, e127, e128, e129, e162, hd] at ha
  exact ⟨u, ha⟩

theorem go_down {j n gk : Nat} (h : j < n) (hg : n - j ≤ gk) : n - (j + 1) < gk := by omega

theorem cut_r {P : Program} {Q : Exit → Act → World → Prop} {id : Nat} {ops : Array Oper} {a0 : Act} {w0 : World} (H : Act → World → Prop) (h1 : ∀ a w, H a w → Q .normal a w) (h2 : (∀ a w, H a w → Q .normal a w) → (Code.region id ops true).wp P Q a0 w0) : (Code.region id ops true).wp P Q a0 w0 := h2 h1

def RIy (w14 : World) (g ta : Nat) (v127 : Value) (n : Nat) (gk : Nat) (a : Act) (wr : World) : Prop :=
  ∃ (j : Nat) (x162 : Value), FrY g ta v127 (n : Int) (j : Int) x162 a ∧ j ≤ n ∧ Hid (Below w14.heap.size w14 wr) ∧ n - j ≤ gk

def slotsY0 (g gz ta : Nat) (v127 : Value) (n128 i zn zk k0 k1 za zb zc zd : Int) : List Ks :=
  [.any, .any, .any, .any, .any, .is (.pointer (some ⟨g, 0, none⟩)), .any, .is (tabV ta), .any, .any, .any, .any, .any, .any, .any, .any, .any, .any, .any, .any, .any, .any, .is (.pointer (some ⟨gz, 0, none⟩)), .any, .any, .any, .any, .any, .any, .any, .any, .any, .any, .any, .any, .any, .any, .any, .any, .any, .any, .any, .any, .any, .any, .any, .any, .any, .any, .any, .any, .any, .any, .any, .any, .any, .any, .any, .any, .any, .any, .any, .any, .any, .any, .any, .any, .any, .any, .any, .any, .any, .any, .any, .any, .any, .any, .any, .any, .any, .any, .any, .any, .any, .any, .any, .any, .any, .any, .any, .any, .any, .any, .any, .any, .any, .any, .any, .any, .any, .any, .any, .any, .any, .any, .any, .any, .any, .any, .any, .any, .any, .any, .any, .any, .any, .any, .any, .any, .any, .any, .any, .any, .any, .any, .any, .any, .is (v127), .is (.int .i64 n128), .is (.int .i64 i), .any, .any, .any, .is (.pointer (some ⟨gz, 0, none⟩)), .is (.int .i64 (zn)), .is (.bool true), .is (.bool true), .is (undef), .is (undef), .is (undef), .is (undef), .is (undef), .is (undef), .is (undef), .is (undef), .is (undef), .is (undef), .is (undef), .is (undef), .is (undef), .is (undef), .is (.bool true), .is (.bool true), .is (tabV ta), .is (.pointer (some ⟨gz, 0, none⟩)), .is (.int .i64 (zn)), .is (.pointer (some ⟨gz, 1, none⟩)), .is (.int .i64 (zk)), .is (.agg #[.int .i64 za, .int .i64 zb, .int .i64 zc, .int .i64 zd]), .is (.pointer (some ⟨gz, 2, none⟩)), .is (.agg #[.int .i64 za, .int .i64 zb, .int .i64 zc, .int .i64 zd]), .is (.bool false), .is (.bool false)]

def slotsY1 (g gz ta : Nat) (v127 : Value) (n128 i zn zk k0 k1 za zb zc zd : Int) : List Ks :=
  [.any, .any, .any, .any, .any, .is (.pointer (some ⟨g, 0, none⟩)), .any, .is (tabV ta), .any, .any, .any, .any, .any, .any, .any, .any, .any, .any, .any, .any, .any, .any, .is (.pointer (some ⟨gz, 0, none⟩)), .any, .any, .any, .any, .any, .any, .any, .any, .any, .any, .any, .any, .any, .any, .any, .any, .any, .any, .any, .any, .any, .any, .any, .any, .any, .any, .any, .any, .any, .any, .any, .any, .any, .any, .any, .any, .any, .any, .any, .any, .any, .any, .any, .any, .any, .any, .any, .any, .any, .any, .any, .any, .any, .any, .any, .any, .any, .any, .any, .any, .any, .any, .any, .any, .any, .any, .any, .any, .any, .any, .any, .any, .any, .any, .any, .any, .any, .any, .any, .any, .any, .any, .any, .any, .any, .any, .any, .any, .any, .any, .any, .any, .any, .any, .any, .any, .any, .any, .any, .any, .any, .any, .any, .any, .is (v127), .is (.int .i64 n128), .is (.int .i64 i), .any, .any, .any, .is (.pointer (some ⟨gz, 0, none⟩)), .is (.int .i64 (zn)), .is (.bool false), .is (.bool false), .is (.pointer (some ⟨gz, 1, none⟩)), .is (.int .i64 (zk)), .is (.pointer (some ⟨g, 0, none⟩)), .is (.pointer (some ⟨g, 0, none⟩)), .is (.int .i64 (k0)), .is (.bool false), .is (.bool false), .is (undef), .is (undef), .is (undef), .is (undef), .is (undef), .is (undef), .is (.bool false), .is (.bool false), .is (.bool false), .is (undef), .is (undef), .is (undef), .is (undef), .is (undef), .is (undef), .is (undef), .is (undef), .is (undef), .is (.bool false)]

def slotsY2 (g gz ta : Nat) (v127 : Value) (n128 i zn zk k0 k1 za zb zc zd : Int) : List Ks :=
  [.any, .any, .any, .any, .any, .is (.pointer (some ⟨g, 0, none⟩)), .any, .is (tabV ta), .any, .any, .any, .any, .any, .any, .any, .any, .any, .any, .any, .any, .any, .any, .is (.pointer (some ⟨gz, 0, none⟩)), .any, .any, .any, .any, .any, .any, .any, .any, .any, .any, .any, .any, .any, .any, .any, .any, .any, .any, .any, .any, .any, .any, .any, .any, .any, .any, .any, .any, .any, .any, .any, .any, .any, .any, .any, .any, .any, .any, .any, .any, .any, .any, .any, .any, .any, .any, .any, .any, .any, .any, .any, .any, .any, .any, .any, .any, .any, .any, .any, .any, .any, .any, .any, .any, .any, .any, .any, .any, .any, .any, .any, .any, .any, .any, .any, .any, .any, .any, .any, .any, .any, .any, .any, .any, .any, .any, .any, .any, .any, .any, .any, .any, .any, .any, .any, .any, .any, .any, .any, .any, .any, .any, .any, .any, .is (v127), .is (.int .i64 n128), .is (.int .i64 i), .any, .any, .any, .is (.pointer (some ⟨gz, 0, none⟩)), .is (.int .i64 (zn)), .is (.bool false), .is (.bool false), .is (.pointer (some ⟨gz, 1, none⟩)), .is (.int .i64 (zk)), .is (.pointer (some ⟨g, 0, none⟩)), .is (.pointer (some ⟨g, 0, none⟩)), .is (.int .i64 (k0)), .is (.bool true), .is (.bool true), .is (.pointer (some ⟨gz, 1, none⟩)), .is (.int .i64 (zk)), .is (.pointer (some ⟨g, 3, none⟩)), .is (.pointer (some ⟨g, 3, none⟩)), .is (.int .i64 (k1)), .is (.bool false), .is (.bool false), .is (.bool false), .is (.bool false), .is (undef), .is (undef), .is (undef), .is (undef), .is (undef), .is (undef), .is (undef), .is (undef), .is (undef), .is (.bool false)]

def slotsY3 (g gz ta : Nat) (v127 : Value) (n128 i zn zk k0 k1 za zb zc zd : Int) : List Ks :=
  [.any, .any, .any, .any, .any, .is (.pointer (some ⟨g, 0, none⟩)), .any, .is (tabV ta), .any, .any, .any, .any, .any, .any, .any, .any, .any, .any, .any, .any, .any, .any, .is (.pointer (some ⟨gz, 0, none⟩)), .any, .any, .any, .any, .any, .any, .any, .any, .any, .any, .any, .any, .any, .any, .any, .any, .any, .any, .any, .any, .any, .any, .any, .any, .any, .any, .any, .any, .any, .any, .any, .any, .any, .any, .any, .any, .any, .any, .any, .any, .any, .any, .any, .any, .any, .any, .any, .any, .any, .any, .any, .any, .any, .any, .any, .any, .any, .any, .any, .any, .any, .any, .any, .any, .any, .any, .any, .any, .any, .any, .any, .any, .any, .any, .any, .any, .any, .any, .any, .any, .any, .any, .any, .any, .any, .any, .any, .any, .any, .any, .any, .any, .any, .any, .any, .any, .any, .any, .any, .any, .any, .any, .any, .any, .is (v127), .is (.int .i64 n128), .is (.int .i64 i), .any, .any, .any, .is (.pointer (some ⟨gz, 0, none⟩)), .is (.int .i64 (zn)), .is (.bool false), .is (.bool false), .is (.pointer (some ⟨gz, 1, none⟩)), .is (.int .i64 (zk)), .is (.pointer (some ⟨g, 0, none⟩)), .is (.pointer (some ⟨g, 0, none⟩)), .is (.int .i64 (k0)), .is (.bool true), .is (.bool true), .is (.pointer (some ⟨gz, 1, none⟩)), .is (.int .i64 (zk)), .is (.pointer (some ⟨g, 3, none⟩)), .is (.pointer (some ⟨g, 3, none⟩)), .is (.int .i64 (k1)), .is (.bool true), .is (.bool true), .is (.bool true), .is (.bool true), .is (tabV ta), .is (.pointer (some ⟨gz, 0, none⟩)), .is (.int .i64 (zn)), .is (.pointer (some ⟨gz, 1, none⟩)), .is (.int .i64 (zk)), .is (.agg #[.int .i64 za, .int .i64 zb, .int .i64 zc, .int .i64 zd]), .is (.pointer (some ⟨gz, 2, none⟩)), .is (.agg #[.int .i64 za, .int .i64 zb, .int .i64 zc, .int .i64 zd]), .is (.bool false), .is (.bool false)]

set_option maxHeartbeats 3500000 in
theorem law_apart (v : Value) (l : List Ent) (vp : Value) (p : List (Int × Int)) (k0 x0 y0 k1 x1 y1 : Int) (w : World) (hv : SeIn w v l) (hp : SvIn w vp p) (h0 : I64 k0 ∧ I64 x0 ∧ I64 y0) (h1 : I64 k1 ∧ I64 x1 ∧ I64 y1) (he : Env4 w) :
    Calls Tryz.prog 4 #[v, vp, .agg #[.int .i64 k0, .int .i64 x0, .int .i64 y0, .int .i64 k1, .int .i64 x1, .int .i64 y1]] w fun e w' => e = .returned (.bool true) ∧ Below w.heap.size w w' := by
  have HE := hid he; have HP := hid hp.row; have HV := hid hv.row; have HI := hid hv.fits; have H0 := hid h0; have H1 := hid h1
  clear he h0 h1
  obtain ⟨⟨A0, c0, rfl, z1, z2⟩, z3⟩ := hv
  obtain ⟨⟨A1, c1, rfl, z4, z5⟩, z6, z7⟩ := hp
  clear z1 z2 z3 z4 z5 z6 z7
  obtain ⟨W, hW, HB0, HX0⟩ := box6 w k0 x0 y0 k1 x1 y1 65
  go_enter Tryz.func4, Tryz.ntmps4
  go_wp2_with fail
  clear hW
  refine (awake7 W (HE.out.below HB0.out)).mono ?_
  rintro e w1 ⟨rfl, hb⟩
  have HB1 := hid (HB0.out.trans (hb.mono HB0.out.size))
  have HX1 := hid (HX0.out.below hb HX0.out.lt)
  clear hb HB0 HX0
  by_cases hlen : 60 < l.length
  · have hlen' : (60 : Int) < (l.length : Int) := by omega
    go_wp2_with fail
    go_ret
    exact ⟨rfl, HB1.out⟩
  · have hlen' : ¬ (60 : Int) < (l.length : Int) := by omega
    by_cases hlp : 24 < p.length
    · have hlp' : (24 : Int) < (p.length : Int) := by omega
      go_wp2_with fail
      go_ret
      exact ⟨rfl, HB1.out⟩
    · have hlp' : ¬ (24 : Int) < (p.length : Int) := by omega
      have HLP : Hid (l.length ≤ 60 ∧ p.length ≤ 24) := hid ⟨by omega, by omega⟩
      obtain ⟨g, hg⟩ : ∃ g, w.heap.size = g := ⟨_, rfl⟩
      have HGG := hid hg
      rw [hg] at HX1
      have ⟨_, q0, _, _, q3, _, _⟩ := HX1.out
      by_cases hkk : k0 = k1
      · subst hkk
        go_wp2_with fail
        go_ret
        exact ⟨rfl, HB1.out⟩
      · have hkb : (k0 == k1) = false := by simpa using hkk
        have HKK := hid hkk
        clear hkk
        go_wp2_with fail
        refine (cnew_any _ l (by omega) HI.out w1 ((HV.out.below HB1.out).mono HB1.out.size)).mono ?_
        rintro e w2 ⟨hna, hb⟩
        have HC2 := hid hb
        have HBF : Hid (∀ W, Below w1.heap.size w1 W → Below w.heap.size w W) := hid (fun W hb => HB1.out.trans (hb.mono HB1.out.size))
        have HVU : Hid (∀ W, Below w1.heap.size w1 W → SlE W W.heap.size (.slice A0 l.length c0) l) := hid (fun W hb => (HV.out.below (HBF.out W hb)).mono (HBF.out W hb).size)
        have HPU : Hid (∀ W, Below w1.heap.size w1 W → SlV W W.heap.size (.slice A1 p.length c1) p) := hid (fun W hb => (HP.out.below (HBF.out W hb)).mono (HBF.out W hb).size)
        have HXF : Hid (∀ W, Below w1.heap.size w1 W → Bx6 W g k0 x0 y0 k1 x1 y1) := hid (fun W hb => HX1.out.below hb HX1.out.lt)
        clear hb q0 q3 hkb
        rcases hna with ⟨hn, rfl⟩ | ⟨hn, ta, ma, rfl, hta⟩
        · have HN := hid hn
          clear hn
          go_wp2_with fail
          refine (cnew_any _ l (by omega) HI.out w2 (HVU.out w2 HC2.out)).mono ?_
          rintro e w3 ⟨⟨_, rfl⟩ | ⟨hn, _⟩, hb⟩
          · have HC3 := hid (HC2.out.trans (hb.mono HC2.out.size))
            clear hb
            go_wp2_with fail
            go_ret
            exact ⟨rfl, HBF.out _ HC3.out⟩
          · rw [HN.out] at hn; cases hn
        · have HN := hid hn
          obtain ⟨D, hD⟩ : ∃ D, setsT noTab l = D := ⟨_, rfl⟩
          have HD := hid hD
          rw [hD] at hta
          have HTA2 := hid hta
          clear hn hD hta
          go_wp2_with fail
          refine (cnew_any _ l (by omega) HI.out w2 (HVU.out w2 HC2.out)).mono ?_
          rintro e w3 ⟨⟨hn, _⟩ | ⟨_, tb, mb, rfl, htb⟩, hb⟩
          · rw [HN.out] at hn; cases hn
          rw [HD.out] at htb
          have HAP3 := hid (CApart.new HTA2.out.at_ htb)
          have HTB3 := hid (htb.mono HC2.out.size)
          have HTA3 := hid (HTA2.out.below hb)
          have HC3 := hid (HC2.out.trans (hb.mono HC2.out.size))
          have I1 : I64 1 := ⟨by decide, by decide⟩
          have HI1 := hid I1
          have hok := HTA3.out.at_.ok
          obtain ⟨O0, hO0⟩ : ∃ O, runO p 1 k0 x0 y0 (D 1 k0) = O := ⟨_, rfl⟩
          obtain ⟨O1, hO1⟩ : ∃ O, runO p 1 k1 x1 y1 (D 1 k1) = O := ⟨_, rfl⟩
          obtain ⟨F0, hF0⟩ : ∃ C, runC p 1 k0 x0 y0 (D 1 k0) = C := ⟨_, rfl⟩
          obtain ⟨F1, hF1⟩ : ∃ C, runC p 1 k1 x1 y1 (D 1 k1) = C := ⟨_, rfl⟩
          have HLO : Hid (O0.length ≤ 4 ∧ O1.length ≤ 4) := hid ⟨by rw [← hO0]; exact runO_len _ _ _ _ _ _ (hok.right _ _), by rw [← hO1]; exact runO_len _ _ _ _ _ _ (hok.right _ _)⟩
          obtain ⟨E0, hE0⟩ : ∃ E, runE p 1 k0 x0 y0 = E := ⟨_, rfl⟩
          obtain ⟨E1, hE1⟩ : ∃ E, runE p 1 k1 x1 y1 = E := ⟨_, rfl⟩
          have HQ := hid (And.intro hO0 (And.intro hO1 (And.intro hF0 (And.intro hF1 (And.intro hE0 hE1)))))
          have HD01 : Hid ((setT D 1 k0 F0) 1 k1 = D 1 k1 ∧ (setT D 1 k1 F1) 1 k0 = D 1 k0) := hid ⟨setT_other _ _ (fun q => HKK.out q.2.symm), setT_other _ _ (fun q => HKK.out q.2)⟩
          have HCM : Hid (setT (setT D 1 k1 F1) 1 k0 F0 = setT (setT D 1 k0 F0) 1 k1 F1) := hid (setT_comm D F1 F0 (fun q => HKK.out q.2))
          have ⟨_, q0, q1, q2, q3, q4, q5⟩ := HXF.out w3 HC3.out
          clear htb hb HTA2 I1 hok hO0 hO1 hF0 hF1 hE0 hE1
          -- the first table: one, two
          go_wp2_with fail
          refine (crun_any ta ma D 1 k0 x0 y0 HI1.out H0.out.1 H0.out.2 _ p (by have := HLP.out; omega) w3 HTA3.out.at_ (HPU.out w3 HC3.out)).mono ?_
          intro e w4 hr
          obtain ⟨A4, c4, ma4, _, rfl, ht4, hg4, hm4, _, _, _, ho4⟩ := hr.all HTA3.out.at_
          rw [HQ.out.1] at ho4
          rw [HQ.out.2.2.1] at ht4
          obtain ⟨hn4, hb4⟩ := HTA3.out.of_set ht4 hg4 hm4
          have HTA4 := hid hn4
          have HTB4 : Hid (TabN w1.heap.size w4 tb mb D) := hid ⟨HTB3.out.at_.grown hg4 HAP3.out.foot_ok.1 HAP3.out.foot_ok.2, HTB3.out.le, HTB3.out.mle⟩
          have HAP4 := hid (HAP3.out.step HTB3.out.at_ hm4)
          have HC4 := hid (HC3.out.trans hb4)
          have HO4 := hid (SlR.of_own ho4)
          rw [HQ.out.1, HQ.out.2.2.2.2.1]
          clear hr ht4 hg4 hm4 ho4 hn4 hb4 q0 q1 q2 q3 q4 q5
          have ⟨_, q0, q1, q2, q3, q4, q5⟩ := HXF.out w4 HC4.out
          go_wp2_with fail
          refine (crun_any ta ma4 _ 1 k1 x1 y1 HI1.out H1.out.1 H1.out.2 _ p (by have := HLP.out; omega) w4 HTA4.out.at_ (HPU.out w4 HC4.out)).mono ?_
          intro e w5 hr
          obtain ⟨A5, c5, ma5, _, rfl, ht5, hg5, hm5, _, _, _, ho5⟩ := hr.all HTA4.out.at_
          rw [HD01.out.1, HQ.out.2.1] at ho5
          rw [HD01.out.1, HQ.out.2.2.2.1] at ht5
          obtain ⟨hn5, hb5⟩ := HTA4.out.of_set ht5 hg5 hm5
          have HTA5 := hid hn5
          have HTB5 : Hid (TabN w1.heap.size w5 tb mb D) := hid ⟨HTB4.out.at_.grown hg5 HAP4.out.foot_ok.1 HAP4.out.foot_ok.2, HTB4.out.le, HTB4.out.mle⟩
          have HAP5 := hid (HAP4.out.step HTB4.out.at_ hm5).symm
          have HC5 := hid (HC4.out.trans hb5)
          have HO45 := hid (HO4.out.turned HTA4.out.at_ hg5)
          have HO5 := hid (SlR.of_own ho5)
          rw [HD01.out.1, HQ.out.2.1, HQ.out.2.2.2.2.2]
          clear hr ht5 hg5 hm5 ho5 hn5 hb5 q0 q1 q2 q3 q4 q5
          have ⟨_, q0, q1, q2, q3, q4, q5⟩ := HXF.out w5 HC5.out
          -- the second table: two, one
          go_wp2_with fail
          refine (crun_any tb mb D 1 k1 x1 y1 HI1.out H1.out.1 H1.out.2 _ p (by have := HLP.out; omega) w5 HTB5.out.at_ (HPU.out w5 HC5.out)).mono ?_
          intro e w6 hr
          obtain ⟨A6, c6, mb6, _, rfl, ht6, hg6, hm6, _, _, _, ho6⟩ := hr.all HTB5.out.at_
          rw [HQ.out.2.1] at ho6
          rw [HQ.out.2.2.2.1] at ht6
          obtain ⟨hn6, hb6⟩ := HTB5.out.of_set ht6 hg6 hm6
          have HTB6 := hid hn6
          have HTA6 : Hid (TabN w1.heap.size w6 ta ma5 (setT (setT D 1 k0 F0) 1 k1 F1)) := hid ⟨HTA5.out.at_.grown hg6 HAP5.out.foot_ok.1 HAP5.out.foot_ok.2, HTA5.out.le, HTA5.out.mle⟩
          have HAP6 := hid (HAP5.out.step HTA5.out.at_ hm6)
          have HC6 := hid (HC5.out.trans hb6)
          have HO46 := hid (HO45.out.turned HTB5.out.at_ hg6)
          have HO56 := hid (HO5.out.turned HTB5.out.at_ hg6)
          have HO6 := hid (SlR.of_own ho6)
          rw [HQ.out.2.1, HQ.out.2.2.2.2.2]
          clear hr ht6 hg6 hm6 ho6 hn6 hb6 q0 q1 q2 q3 q4 q5
          have ⟨_, q0, q1, q2, q3, q4, q5⟩ := HXF.out w6 HC6.out
          go_wp2_with fail
          refine (crun_any tb mb6 _ 1 k0 x0 y0 HI1.out H0.out.1 H0.out.2 _ p (by have := HLP.out; omega) w6 HTB6.out.at_ (HPU.out w6 HC6.out)).mono ?_
          intro e w7 hr
          obtain ⟨A7, c7, mb7, _, rfl, ht7, hg7, hm7, _, _, _, ho7⟩ := hr.all HTB6.out.at_
          rw [HD01.out.2, HQ.out.1] at ho7
          rw [HD01.out.2, HQ.out.2.2.1, HCM.out] at ht7
          obtain ⟨hn7, hb7⟩ := HTB6.out.of_set ht7 hg7 hm7
          have HTB7 := hid hn7
          have HTA7 : Hid (TabN w1.heap.size w7 ta ma5 (setT (setT D 1 k0 F0) 1 k1 F1)) := hid ⟨HTA6.out.at_.grown hg7 HAP6.out.foot_ok.1 HAP6.out.foot_ok.2, HTA6.out.le, HTA6.out.mle⟩
          have HC7 := hid (HC6.out.trans hb7)
          have HO47 := hid (HO46.out.turned HTB6.out.at_ hg7)
          have HO57 := hid (HO56.out.turned HTB6.out.at_ hg7)
          have HO67 := hid (HO6.out.turned HTB6.out.at_ hg7)
          have HO7 := hid (SlR.of_own ho7)
          rw [HD01.out.2, HQ.out.1, HQ.out.2.2.2.2.1]
          clear hr ht7 hg7 hm7 ho7 hn7 hb7 q0 q1 q2 q3 q4 q5 HO4 HO45 HO46 HO5 HO56 HO6
          obtain ⟨DD, hDD⟩ : ∃ DD, setT (setT D 1 k0 F0) 1 k1 F1 = DD := ⟨_, rfl⟩
          have HDD := hid hDD
          rw [hDD] at HTA7 HTB7
          clear hDD HTA3 HTA4 HTA5 HTA6 HTB3 HTB4 HTB5 HTB6 HAP3 HAP4 HAP5 HAP6
          go_wp2_with fail
          refine (crecs_any _ _ O0 O0 true (hid (by simp)) (by have := HLO.out; omega) (by have := HLO.out; omega) w7 HO47.out HO7.out).mono ?_
          rintro e w8 ⟨rfl, hb⟩
          have HTA8 := hid (HTA7.out.below hb); have HTB8 := hid (HTB7.out.below hb)
          have HC8 := hid (HC7.out.trans (hb.mono HC7.out.size))
          have HO58 := hid (HO57.out.up hb); have HO68 := hid (HO67.out.up hb)
          clear hb HO47 HO57 HO67 HO7
          go_wp2_with fail
          refine (crecs_any _ _ O1 O1 true (hid (by simp)) (by have := HLO.out; omega) (by have := HLO.out; omega) w8 HO58.out HO68.out).mono ?_
          rintro e w9 ⟨rfl, hb⟩
          have HTA9 := hid (HTA8.out.below hb); have HTB9 := hid (HTB8.out.below hb)
          have HC9 := hid (HC8.out.trans (hb.mono HC8.out.size))
          clear hb HO58 HO68
          go_wp2_with fail
          refine (all_any ta ma5 DD w9 HTA9.out.at_).mono ?_
          rintro e w10 ⟨A10, c10, rfl, ho, hb⟩
          have HTA10 := hid (HTA9.out.below hb); have HTB10 := hid (HTB9.out.below hb)
          have HC10 := hid (HC9.out.trans (hb.mono HC9.out.size))
          have HS10 := hid (SlE.of_own ho)
          clear ho hb
          go_wp2_with fail
          refine (all_any tb mb7 DD w10 HTB10.out.at_).mono ?_
          rintro e w11 ⟨A11, c11, rfl, ho, hb⟩
          have HTA11 := hid (HTA10.out.below hb)
          have HC11 := hid (HC10.out.trans (hb.mono HC10.out.size))
          have HS11 := hid (SlE.of_own ho)
          have HS10b := hid (HS10.out.up hb)
          clear ho hb
          go_wp2_with fail
          refine (csame_any _ _ (ents DD fun _ => true) (ents DD fun _ => true) true (hid (by simp)) (by have := ents_len DD fun _ => true; omega) (by have := ents_len DD fun _ => true; omega) w11 HS10b.out HS11.out).mono ?_
          rintro e w12 ⟨rfl, hb⟩
          have HTA12 := hid (HTA11.out.below hb)
          have HC12 := hid (HC11.out.trans (hb.mono HC11.out.size))
          clear hb HS10 HS11 HS10b HTB7 HTB8 HTB9 HTB10 HTA7 HTA8 HTA9 HTA10 HTA11
          go_wp2_with fail
          refine (cnew_any _ l (by omega) HI.out w12 (HVU.out w12 HC12.out)).mono ?_
          rintro e w13 ⟨⟨hn, _⟩ | ⟨_, tc, mc, rfl, htc⟩, hb⟩
          · rw [HN.out] at hn; cases hn
          rw [HD.out] at htc
          have HTC13 := hid htc
          have HTA13 := hid (HTA12.out.below hb)
          have HC13 := hid (HC12.out.trans (hb.mono HC12.out.size))
          clear htc hb
          go_wp2_with fail
          refine (all_any tc mc D w13 HTC13.out.at_).mono ?_
          rintro e w14 ⟨A14, c14, rfl, ho, hb⟩
          have HTA14 := hid (HTA13.out.below hb)
          have HC14 := hid (HC13.out.trans (hb.mono HC13.out.size))
          have HS14 := hid (SlE.of_own ho)
          have HOKD := hid HTC13.out.at_.ok
          have HXX := hid (HXF.out w14 HC14.out)
          clear ho hb
          obtain ⟨L, hL⟩ : ∃ L, (ents D fun _ => true) = L := ⟨_, rfl⟩
          have HL := hid hL
          rw [hL] at HS14 ⊢
          clear hL
          have hmixed : Tryz.prog.follows .mixedOrders = true := by kernel_rfl
          go_wp2_with fail
          have HLL : Hid (L.length ≤ 512) := hid (by rw [← HL.out]; exact ents_len _ _)
          refine wp_loop_ghost_k (RIy w14 g ta (.slice A14 L.length c14) L.length) 600 ⟨0, _, ⟨rfl, rfl, rfl, rfl, rfl, rfl, rfl, rfl⟩, Nat.zero_le _, hid (Below.refl _ _), by have := HLL.out; omega⟩ ?_
          intro gk act wr hinv J K2 hJ hK
          obtain ⟨j, x162, hfr, hj, HBR, hgk⟩ := hinv
          have HK2 : Hid (∀ m a' w', m < gk → RIy w14 g ta (.slice A14 L.length c14) L.length m a' w' → K2 a' w') := hid (fun m a' w' hm hI => hK a' w' (Handed.intro m hm (hJ _ _ _ hI)))
          obtain ⟨u, rfl⟩ := hfr.open_
          clear hfr hK hJ
          by_cases hlt : j < L.length
          · obtain ⟨Aq, cq, hv, hcq, hrow⟩ := HS14.out
            injection hv with e1 e2 e3
            obtain ⟨bq, oq, hA, hbq, hx⟩ := hrow (by omega)
            obtain rfl : A14 = some ⟨bq, oq, none⟩ := e1.trans hA
            have hmem : L.getD j e0 ∈ L := by rw [List.getD_eq_getElem?_getD, List.getElem?_eq_getElem hlt]; exact List.getElem_mem hlt
            obtain ⟨zn, zk, za, zb, zc, zd, hz⟩ := ent_of (x := L.getD j e0)
            obtain ⟨z0, z1, z2, z3, z4, z5⟩ := (hx j hlt).keep (w' := wr) fun o => HBR.out.cell (p := ⟨bq, o, none⟩) hbq
            rw [hz] at z0 z1 z2 z3 z4 z5 hmem
            rw [← HL.out] at hmem
            have hm2 := (mem_ents HOKD.out).1 hmem
            have hok2 := HOKD.out zn zk (by rw [hm2.1]; exact hm2.2.1)
            have HZ := hid (And.intro hm2.1 hok2)
            simp only at z0 z1 z2 z3 z4 z5
            subst e3
            clear hrow hx hmem hm2 hok2 hz hA e1 e2 hcq
            go_wp2_with fail
            obtain ⟨X, hX, HBX, HZB⟩ := box6 wr zn zk za zb zc zd 37
            have HBRX := hid (HBR.out.trans (HBX.out.mono HBR.out.size))
            have HTX := hid (HTA14.out.at_.below HBRX.out)
            have HXB := hid (HXX.out.below HBRX.out HXX.out.lt)
            obtain ⟨gz, hgz⟩ : ∃ gz, wr.heap.size = gz := ⟨_, rfl⟩
            rw [hgz] at HZB
            rw [hX, hgz]
            clear hX hgz z0 z1 z2 z3 z4 z5
            have HIZ : Hid (I64 zn ∧ I64 zk) := hid (by
              have h1 := HZ.out.2.1
              have h2 := HZ.out.2.2.1
              unfold nodeB at h1; unfold keyB at h2
              simp only [Bool.and_eq_true, decide_eq_true_eq] at h1 h2
              unfold I64
              omega)
            have l1 := HZB.out.lt
            have l2 := HXB.out.lt
            have f0 := HZB.out.q0; have f1 := HZB.out.q1; have f2 := HZB.out.q2; have f3 := HZB.out.q3; have f4 := HZB.out.q4; have f5 := HZB.out.q5
            have t0 := HXB.out.q0; have t3 := HXB.out.q3
            have hne := neq_arr4 za zb zc zd
            have HGT : Hid (¬ (zn = 1 ∧ zk = k0) → ¬ (zn = 1 ∧ zk = k1) → DD zn zk = ((za, zb), (zc, zd))) := hid (by
              intro h1 h2
              rw [← HDD.out, setT_other _ _ h2, setT_other _ _ h1]
              exact HZ.out.1)
            refine cut_r (H := fun a w' => FrY g ta (.slice (some ⟨bq, oq, none⟩) L.length c14) (L.length : Int) (j : Int) (.bool false) a ∧ Hid (Below X.heap.size X w')) ?_ fun hend => ?_
            · rintro a w' ⟨hfr, HE⟩
              obtain ⟨u2, rfl⟩ := hfr.open_
              have hw1 := wrap_succ (t := j) (T := (j : Int)) rfl (by have := HLL.out; omega)
              clear hfr
              go_wp2_with fail
              exact HK2.out (L.length - (j + 1)) _ _ (go_down hlt hgk) ⟨j + 1, _, ⟨rfl, rfl, rfl, rfl, rfl, rfl, congrArg (Value.int .i64) hw1, rfl⟩, hlt, hid (HBRX.out.trans (HE.out.mono HBRX.out.size)), Nat.le_refl _⟩
            by_cases hn1 : zn = 1
            · subst hn1
              by_cases hk0 : zk = k0
              · subst hk0
                refine region_und (T := fun k => ((slotsY1 g gz ta (.slice (some ⟨bq, oq, none⟩) L.length c14) (L.length : Int) (j : Int) 1 zk zk k1 za zb zc zd).getD k .any).ok) (G := fun w' => Hid (Below X.heap.size X w')) (bs := [5, 7, 22, 127, 128, 129]) 164 (by kernel_rfl) rfl (by kernel_rfl) (fun k u w w' => Ks.stable _ u w w') (hid (Below.refl _ _).drew) ?_ ?_ ?_
                · refine List.forall_mem_cons.2 ⟨rfl, List.forall_mem_cons.2 ⟨rfl, List.forall_mem_cons.2 ⟨rfl, List.forall_mem_cons.2 ⟨rfl, List.forall_mem_cons.2 ⟨rfl, List.forall_mem_cons.2 ⟨rfl, ?_⟩⟩⟩⟩⟩⟩
                  intro k hk; cases hk
                · repeat' (first | exact StepsU.nil | refine StepsU.append ?_ ?_ | refine StepsU.cons ?_ ?_)
                  all_goals first
                    | (refine .inl ⟨guard_none rfl, ?_⟩)
                    | (refine .inl ⟨guard_some rfl rfl (fun u w h => h), ?_⟩)
                    | (refine .inr ⟨guard_out rfl rfl (fun u w h e => by cases h.symm.trans e), fun w _ d hd => ?_⟩; cases hd; exact rfl)
                  all_goals intro K a w' hK hG H
                  all_goals obtain ⟨hc, hf⟩ := bcell hG.out
                  all_goals first
                    | (obtain ⟨h1, h2, h3, -⟩ := H; change a.tmps.getD _ undef = _ at h1; have g1 := h1; rw [Array.getD_eq_getD_getElem?] at g1; change a.tmps.getD _ undef = _ at h2; have g2 := h2; rw [Array.getD_eq_getD_getElem?] at g2; change a.tmps.getD _ undef = _ at h3; have g3 := h3; rw [Array.getD_eq_getD_getElem?] at g3)
                    | (obtain ⟨h1, h2, -⟩ := H; change a.tmps.getD _ undef = _ at h1; have g1 := h1; rw [Array.getD_eq_getD_getElem?] at g1; change a.tmps.getD _ undef = _ at h2; have g2 := h2; rw [Array.getD_eq_getD_getElem?] at g2)
                    | (obtain ⟨h1, -⟩ := H; change a.tmps.getD _ undef = _ at h1; have g1 := h1; rw [Array.getD_eq_getD_getElem?] at g1)
                    | skip
                  all_goals go_simp
                  all_goals first
                    | exact hK _ _ (fun d hd => by cases hd; exact rfl) hG (Below.refl _ _)
                    | skip
                · intro a w' hd hn hG hkeep hval
                  exact hend a w' ⟨⟨hn, hd, (hkeep 5 (by decide) (not_written (by kernel_rfl))), (hkeep 7 (by decide) (not_written (by kernel_rfl))), (hkeep 127 (by decide) (not_written (by kernel_rfl))), (hkeep 128 (by decide) (not_written (by kernel_rfl))), (hkeep 129 (by decide) (not_written (by kernel_rfl))), (hval 162 (by kernel_rfl))⟩, hG⟩
              · have hk0' : (zk != k0) = true := by simpa using hk0
                by_cases hk1 : zk = k1
                · subst hk1
                  refine region_und (T := fun k => ((slotsY2 g gz ta (.slice (some ⟨bq, oq, none⟩) L.length c14) (L.length : Int) (j : Int) 1 zk k0 zk za zb zc zd).getD k .any).ok) (G := fun w' => Hid (Below X.heap.size X w')) (bs := [5, 7, 22, 127, 128, 129]) 164 (by kernel_rfl) rfl (by kernel_rfl) (fun k u w w' => Ks.stable _ u w w') (hid (Below.refl _ _).drew) ?_ ?_ ?_
                  · refine List.forall_mem_cons.2 ⟨rfl, List.forall_mem_cons.2 ⟨rfl, List.forall_mem_cons.2 ⟨rfl, List.forall_mem_cons.2 ⟨rfl, List.forall_mem_cons.2 ⟨rfl, List.forall_mem_cons.2 ⟨rfl, ?_⟩⟩⟩⟩⟩⟩
                    intro k hk; cases hk
                  · repeat' (first | exact StepsU.nil | refine StepsU.append ?_ ?_ | refine StepsU.cons ?_ ?_)
                    all_goals first
                      | (refine .inl ⟨guard_none rfl, ?_⟩)
                      | (refine .inl ⟨guard_some rfl rfl (fun u w h => h), ?_⟩)
                      | (refine .inr ⟨guard_out rfl rfl (fun u w h e => by cases h.symm.trans e), fun w _ d hd => ?_⟩; cases hd; exact rfl)
                    all_goals intro K a w' hK hG H
                    all_goals obtain ⟨hc, hf⟩ := bcell hG.out
                    all_goals first
                      | (obtain ⟨h1, h2, h3, -⟩ := H; change a.tmps.getD _ undef = _ at h1; have g1 := h1; rw [Array.getD_eq_getD_getElem?] at g1; change a.tmps.getD _ undef = _ at h2; have g2 := h2; rw [Array.getD_eq_getD_getElem?] at g2; change a.tmps.getD _ undef = _ at h3; have g3 := h3; rw [Array.getD_eq_getD_getElem?] at g3)
                      | (obtain ⟨h1, h2, -⟩ := H; change a.tmps.getD _ undef = _ at h1; have g1 := h1; rw [Array.getD_eq_getD_getElem?] at g1; change a.tmps.getD _ undef = _ at h2; have g2 := h2; rw [Array.getD_eq_getD_getElem?] at g2)
                      | (obtain ⟨h1, -⟩ := H; change a.tmps.getD _ undef = _ at h1; have g1 := h1; rw [Array.getD_eq_getD_getElem?] at g1)
                      | skip
                    all_goals go_simp
                    all_goals first
                      | exact hK _ _ (fun d hd => by cases hd; exact rfl) hG (Below.refl _ _)
                      | skip
                  · intro a w' hd hn hG hkeep hval
                    exact hend a w' ⟨⟨hn, hd, (hkeep 5 (by decide) (not_written (by kernel_rfl))), (hkeep 7 (by decide) (not_written (by kernel_rfl))), (hkeep 127 (by decide) (not_written (by kernel_rfl))), (hkeep 128 (by decide) (not_written (by kernel_rfl))), (hkeep 129 (by decide) (not_written (by kernel_rfl))), (hval 162 (by kernel_rfl))⟩, hG⟩
                · have hk1' : (zk != k1) = true := by simpa using hk1
                  have HGV := hid (HGT.out (fun q => hk0 q.2) (fun q => hk1 q.2))
                  clear hk0 hk1
                  refine region_und (T := fun k => ((slotsY3 g gz ta (.slice (some ⟨bq, oq, none⟩) L.length c14) (L.length : Int) (j : Int) 1 zk k0 k1 za zb zc zd).getD k .any).ok) (G := fun w' => Hid (Below X.heap.size X w')) (bs := [5, 7, 22, 127, 128, 129]) 164 (by kernel_rfl) rfl (by kernel_rfl) (fun k u w w' => Ks.stable _ u w w') (hid (Below.refl _ _).drew) ?_ ?_ ?_
                  · refine List.forall_mem_cons.2 ⟨rfl, List.forall_mem_cons.2 ⟨rfl, List.forall_mem_cons.2 ⟨rfl, List.forall_mem_cons.2 ⟨rfl, List.forall_mem_cons.2 ⟨rfl, List.forall_mem_cons.2 ⟨rfl, ?_⟩⟩⟩⟩⟩⟩
                    intro k hk; cases hk
                  · repeat' (first | exact StepsU.nil | refine StepsU.append ?_ ?_ | refine StepsU.cons ?_ ?_)
                    all_goals first
                      | (refine .inl ⟨guard_none rfl, ?_⟩)
                      | (refine .inl ⟨guard_some rfl rfl (fun u w h => h), ?_⟩)
                      | (refine .inr ⟨guard_out rfl rfl (fun u w h e => by cases h.symm.trans e), fun w _ d hd => ?_⟩; cases hd; exact rfl)
                    all_goals intro K a w' hK hG H
                    all_goals obtain ⟨hc, hf⟩ := bcell hG.out
                    all_goals first
                      | (obtain ⟨h1, h2, h3, -⟩ := H; change a.tmps.getD _ undef = _ at h1; have g1 := h1; rw [Array.getD_eq_getD_getElem?] at g1; change a.tmps.getD _ undef = _ at h2; have g2 := h2; rw [Array.getD_eq_getD_getElem?] at g2; change a.tmps.getD _ undef = _ at h3; have g3 := h3; rw [Array.getD_eq_getD_getElem?] at g3)
                      | (obtain ⟨h1, h2, -⟩ := H; change a.tmps.getD _ undef = _ at h1; have g1 := h1; rw [Array.getD_eq_getD_getElem?] at g1; change a.tmps.getD _ undef = _ at h2; have g2 := h2; rw [Array.getD_eq_getD_getElem?] at g2)
                      | (obtain ⟨h1, -⟩ := H; change a.tmps.getD _ undef = _ at h1; have g1 := h1; rw [Array.getD_eq_getD_getElem?] at g1)
                      | skip
                    all_goals go_simp
                    all_goals first
                      | exact hK _ _ (fun d hd => by cases hd; exact rfl) hG (Below.refl _ _)
                      | (go_at_call 22; (with_reducible refine (get_any ta ma5 DD _ _ HIZ.out.1 HIZ.out.2 _ (HTX.out.below hG.out)).mono ?_); (rw [HGV.out]; rintro e w'' ⟨rfl, hb⟩; exact hK _ _ (fun d hd => by cases hd; exact rfl) (hid (hG.out.trans (hb.mono hG.out.size))) hb))
                      | skip
                  · intro a w' hd hn hG hkeep hval
                    exact hend a w' ⟨⟨hn, hd, (hkeep 5 (by decide) (not_written (by kernel_rfl))), (hkeep 7 (by decide) (not_written (by kernel_rfl))), (hkeep 127 (by decide) (not_written (by kernel_rfl))), (hkeep 128 (by decide) (not_written (by kernel_rfl))), (hkeep 129 (by decide) (not_written (by kernel_rfl))), (hval 162 (by kernel_rfl))⟩, hG⟩
            · have hn1' : (zn != 1) = true := by simpa using hn1
              have HGV := hid (HGT.out (fun q => hn1 q.1) (fun q => hn1 q.1))
              clear hn1
              refine region_und (T := fun k => ((slotsY0 g gz ta (.slice (some ⟨bq, oq, none⟩) L.length c14) (L.length : Int) (j : Int) zn zk k0 k1 za zb zc zd).getD k .any).ok) (G := fun w' => Hid (Below X.heap.size X w')) (bs := [5, 7, 22, 127, 128, 129]) 164 (by kernel_rfl) rfl (by kernel_rfl) (fun k u w w' => Ks.stable _ u w w') (hid (Below.refl _ _).drew) ?_ ?_ ?_
              · refine List.forall_mem_cons.2 ⟨rfl, List.forall_mem_cons.2 ⟨rfl, List.forall_mem_cons.2 ⟨rfl, List.forall_mem_cons.2 ⟨rfl, List.forall_mem_cons.2 ⟨rfl, List.forall_mem_cons.2 ⟨rfl, ?_⟩⟩⟩⟩⟩⟩
                intro k hk; cases hk
              · repeat' (first | exact StepsU.nil | refine StepsU.append ?_ ?_ | refine StepsU.cons ?_ ?_)
                all_goals first
                  | (refine .inl ⟨guard_none rfl, ?_⟩)
                  | (refine .inl ⟨guard_some rfl rfl (fun u w h => h), ?_⟩)
                  | (refine .inr ⟨guard_out rfl rfl (fun u w h e => by cases h.symm.trans e), fun w _ d hd => ?_⟩; cases hd; exact rfl)
                all_goals intro K a w' hK hG H
                all_goals obtain ⟨hc, hf⟩ := bcell hG.out
                all_goals first
                  | (obtain ⟨h1, h2, h3, -⟩ := H; change a.tmps.getD _ undef = _ at h1; have g1 := h1; rw [Array.getD_eq_getD_getElem?] at g1; change a.tmps.getD _ undef = _ at h2; have g2 := h2; rw [Array.getD_eq_getD_getElem?] at g2; change a.tmps.getD _ undef = _ at h3; have g3 := h3; rw [Array.getD_eq_getD_getElem?] at g3)
                  | (obtain ⟨h1, h2, -⟩ := H; change a.tmps.getD _ undef = _ at h1; have g1 := h1; rw [Array.getD_eq_getD_getElem?] at g1; change a.tmps.getD _ undef = _ at h2; have g2 := h2; rw [Array.getD_eq_getD_getElem?] at g2)
                  | (obtain ⟨h1, -⟩ := H; change a.tmps.getD _ undef = _ at h1; have g1 := h1; rw [Array.getD_eq_getD_getElem?] at g1)
                  | skip
                all_goals go_simp
                all_goals first
                  | exact hK _ _ (fun d hd => by cases hd; exact rfl) hG (Below.refl _ _)
                  | (go_at_call 22; (with_reducible refine (get_any ta ma5 DD _ _ HIZ.out.1 HIZ.out.2 _ (HTX.out.below hG.out)).mono ?_); (rw [HGV.out]; rintro e w'' ⟨rfl, hb⟩; exact hK _ _ (fun d hd => by cases hd; exact rfl) (hid (hG.out.trans (hb.mono hG.out.size))) hb))
                  | skip
              · intro a w' hd hn hG hkeep hval
                exact hend a w' ⟨⟨hn, hd, (hkeep 5 (by decide) (not_written (by kernel_rfl))), (hkeep 7 (by decide) (not_written (by kernel_rfl))), (hkeep 127 (by decide) (not_written (by kernel_rfl))), (hkeep 128 (by decide) (not_written (by kernel_rfl))), (hkeep 129 (by decide) (not_written (by kernel_rfl))), (hval 162 (by kernel_rfl))⟩, hG⟩
          · go_wp2_with fail
            go_ret
            exact ⟨rfl, HBF.out _ (HC14.out.trans (HBR.out.mono HC14.out.size))⟩

end Go.Proofs.YtfhlpbjdcdagjaaGreatDoor
