/- Layer 1, octet: the Reader: a contract for each method. -/
import Derived.Test.YtimdgbklfldfkaaBase
import Derived.Test.YtimdgbklfldfkaaShelf
import Derived.Deep.QuietTactic
import Derived.BigQuiet
namespace Go.Proofs.Ytimdgbklfldfkaa
open Go.RowKit

/-- The number that four bytes are. -/
def dec4 (a b c d : UInt8) : Int := (16777216 * (a.toNat : Int) + 65536 * b.toNat + 256 * c.toNat + d.toNat + 2147483648) % 4294967296 - 2147483648

/-- A Reader at (b, o) that has bs left. -/
def RdAt (w : World) (b o : Nat) (bs : List UInt8) : Prop := w.cell? ⟨b, o, none⟩ = some (.string ⟨bs.toArray⟩) ∧ w.frozen? ⟨b, o, none⟩ = false

theorem or32 (k A B : Nat) (hB : B < 2 ^ k) (h : 2 ^ k * A + B < 4294967296) (x y : Int) (hx : x = ((2 ^ k * A : Nat) : Int)) (hy : y = (B : Int)) : bits .or .u32 x y = ((2 ^ k * A + B : Nat) : Int) := by
  subst hx hy
  have h1 : (BitVec.ofInt 32 ((2 ^ k * A : Nat) : Int)).toNat = 2 ^ k * A := by
    rw [BitVec.ofInt_natCast, BitVec.toNat_ofNat]; exact Nat.mod_eq_of_lt (by omega)
  have h2 : (BitVec.ofInt 32 (B : Int)).toNat = B := by
    rw [BitVec.ofInt_natCast, BitVec.toNat_ofNat]; exact Nat.mod_eq_of_lt (by omega)
  show IntKind.u32.wrap ((BitVec.ofInt 32 ((2 ^ k * A : Nat) : Int) ||| BitVec.ofInt 32 (B : Int)).toNat : Int) = _
  rw [BitVec.toNat_or, h1, h2, ← Nat.two_pow_add_eq_or_of_lt hB]
  have e : ∀ n : Int, IntKind.u32.wrap n = n % 4294967296 := fun n => by simp [IntKind.wrap, IntKind.bits, IntKind.signed]
  rw [e]
  omega

theorem dec_bits (p q r s : UInt8) : wrap64 (wrap32 (bits BinOp.or IntKind.u32 (bits BinOp.or IntKind.u32 (bits BinOp.or IntKind.u32 ((p.toNat : Int) % 4294967296 * 16777216 % 4294967296)
    ((q.toNat : Int) % 4294967296 * 65536 % 4294967296)) ((r.toNat : Int) % 4294967296 * 256 % 4294967296)) ((s.toNat : Int) % 4294967296))) = dec4 p q r s := by
  have hp := p.toNat_lt; have hq := q.toNat_lt; have hr := r.toNat_lt; have hs := s.toNat_lt
  have e1 := or32 24 p.toNat (65536 * q.toNat) (by omega) (by omega) ((p.toNat : Int) % 4294967296 * 16777216 % 4294967296) ((q.toNat : Int) % 4294967296 * 65536 % 4294967296) (by omega) (by omega)
  have e2 := or32 8 (65536 * p.toNat + 256 * q.toNat + r.toNat) s.toNat (by omega) (by omega)
    (bits BinOp.or IntKind.u32 (bits BinOp.or IntKind.u32 ((p.toNat : Int) % 4294967296 * 16777216 % 4294967296) ((q.toNat : Int) % 4294967296 * 65536 % 4294967296)) ((r.toNat : Int) % 4294967296 * 256 % 4294967296)) ((s.toNat : Int) % 4294967296)
    (by
      have e3 := or32 16 (256 * p.toNat + q.toNat) (256 * r.toNat) (by omega) (by omega) (bits BinOp.or IntKind.u32 ((p.toNat : Int) % 4294967296 * 16777216 % 4294967296) ((q.toNat : Int) % 4294967296 * 65536 % 4294967296)) ((r.toNat : Int) % 4294967296 * 256 % 4294967296)
        (by rw [e1]; omega) (by omega)
      rw [e3]; omega) (by omega)
  rw [e2]
  simp only [wrap64, wrap32, dec4]
  omega

attribute [irreducible] dec4

theorem dec4_bd (p q r s : UInt8) : -2147483648 ≤ dec4 p q r s ∧ dec4 p q r s ≤ 2147483647 := by unfold dec4; omega

/-- The first four bytes, as a number. -/
def head4 (l : List UInt8) : Int := dec4 (l.getD 0 0) (l.getD 1 0) (l.getD 2 0) (l.getD 3 0)

theorem size_mk (l : List UInt8) : (⟨l.toArray⟩ : ByteArray).size = l.length := by show l.toArray.size = _; simp
theorem extract_mk (l : List UInt8) (a b : Nat) : (⟨l.toArray⟩ : ByteArray).extract a b = ⟨((l.take b).drop a).toArray⟩ := by
  apply ByteArray.ext
  simp [ByteArray.data_extract, List.extract_eq_take_drop, List.drop_take]

theorem quad (l : List UInt8) (h : 4 ≤ l.length) : l = l.getD 0 0 :: l.getD 1 0 :: l.getD 2 0 :: l.getD 3 0 :: l.drop 4 := by
  match l, h with
  | a :: b :: c :: d :: r, _ => rfl

theorem idx_u8 (S : ByteArray) (i : Nat) (p : UInt8) (h : S.data.toList[i]? = some p) (w : World) :
    (Instr.index 9 (.string S) (.int .i64 i)).run Try.prog w = .ok (.int .u8 p.toNat) w := by
  have hi : i < S.data.toList.length := by
    rcases Nat.lt_or_ge i S.data.toList.length with h1 | h1
    · exact h1
    · rw [List.getElem?_eq_none h1] at h; cases h
  have hs : i < S.size := by show i < S.data.size; simpa using hi
  rw [run_index_string _ _ _ _ _ Try.underlying9, dif_pos (by omega)]
  have : S[(i : Int).toNat]'(by omega) = p := by
    rw [List.getElem?_eq_getElem hi] at h
    injection h with h
  rw [this]

set_option maxHeartbeats 400000 in
theorem next_abs (b o : Nat) (p q r s : UInt8) (S : ByteArray) (h4 : 4 ≤ S.size)
    (i0 : ∀ w, (Instr.index 9 (.string S) (.int .i64 0)).run Try.prog w = .ok (.int .u8 p.toNat) w) (i1 : ∀ w, (Instr.index 9 (.string S) (.int .i64 1)).run Try.prog w = .ok (.int .u8 q.toNat) w)
    (i2 : ∀ w, (Instr.index 9 (.string S) (.int .i64 2)).run Try.prog w = .ok (.int .u8 r.toNat) w) (i3 : ∀ w, (Instr.index 9 (.string S) (.int .i64 3)).run Try.prog w = .ok (.int .u8 s.toNat) w)
    (w : World) (h1 : w.cell? ⟨b, o, none⟩ = some (.string S)) (hl : S.size ≤ 1000000000000) :
    Calls Try.prog 23 #[.pointer (some ⟨b, o, none⟩)] w fun e w' => e = .returned (.tuple #[.int .i64 (dec4 p q r s), .int .i64 0]) ∧ ∃ n, w' = w.drewN n := by
  go_enter Try.func23, Try.ntmps23
  go_wp2_with fail
  go_quiet (fail)
  go_wp2
  go_ret2
  exact ⟨ret2_int (dec_bits p q r s), _, rfl⟩

theorem next_some (b o : Nat) (l : List UInt8) (w : World) (h4 : 4 ≤ l.length) (h1 : RdAt w b o l) (hl : l.length ≤ 1000000000000) :
    Calls Try.prog 23 #[.pointer (some ⟨b, o, none⟩)] w fun e w' => e = .returned (.tuple #[.int .i64 (head4 l), .int .i64 0]) ∧ ∃ n, w' = w.drewN n := by
  have e := quad l h4
  have hd : (⟨l.toArray⟩ : ByteArray).data.toList = l := by simp
  have g : ∀ i : Nat, l[i]? = (l.getD 0 0 :: l.getD 1 0 :: l.getD 2 0 :: l.getD 3 0 :: l.drop 4)[i]? := fun i => by rw [← e]
  exact next_abs b o _ _ _ _ ⟨l.toArray⟩ (by rw [size_mk]; exact h4) (idx_u8 _ 0 _ (by rw [hd, g]; rfl)) (idx_u8 _ 1 _ (by rw [hd, g]; rfl)) (idx_u8 _ 2 _ (by rw [hd, g]; rfl)) (idx_u8 _ 3 _ (by rw [hd, g]; rfl)) w h1.1 (by rw [size_mk]; exact hl)

theorem next_short (b o : Nat) (l : List UInt8) (w : World) (h4 : l.length < 4) (h1 : RdAt w b o l) :
    Calls Try.prog 23 #[.pointer (some ⟨b, o, none⟩)] w fun e w' => e = .returned (.tuple #[.int .i64 0, .int .i64 3]) ∧ w = w' := by
  obtain ⟨h1, _⟩ := h1
  go_enter Try.func23, Try.ntmps23
  go_wp2
  go_ret2
  exact ⟨rfl, rfl⟩

/-- What a number within bounds answers: the number and the error. -/
def withinV (l : List UInt8) (x y : Int) : Int × Int :=
  if l.length < 4 then (0, 3) else if head4 l < x ∨ y < head4 l then (0, 2) else (head4 l, 0)

theorem RdAt.drewN {w : World} {b o : Nat} {l : List UInt8} (h : RdAt w b o l) (n : Nat) : RdAt (w.drewN n) b o l := h

set_option maxHeartbeats 400000 in
theorem within_abs (b o : Nat) (S S' : ByteArray) (z x y : Int) (w : World) (hx : x ≤ z) (hy : z ≤ y) (h4 : 4 ≤ S.size) (hl : S.size ≤ 1000000000000)
    (hex : S.extract 4 S.size = S') (hc : ∀ n, (w.drewN n).cell? ⟨b, o, none⟩ = some (.string S)) (hf : ∀ n, (w.drewN n).frozen? ⟨b, o, none⟩ = false)
    (hN : Calls Try.prog 23 #[.pointer (some ⟨b, o, none⟩)] w fun e w' => e = .returned (.tuple #[.int .i64 z, .int .i64 0]) ∧ ∃ n, w' = w.drewN n) :
    Calls Try.prog 20 #[.pointer (some ⟨b, o, none⟩), .int .i64 x, .int .i64 y] w fun e w' => e = .returned (.tuple #[.int .i64 z, .int .i64 0]) ∧ ∃ n, w' = (w.drewN n).setCell ⟨b, o, none⟩ (.string S') := by
  have HN := hid hN; clear hN
  go_enter Try.func20, Try.ntmps20
  go_wp2_with fail
  refine HN.out.mono ?_
  rintro e w' ⟨rfl, n, rfl⟩
  go_wp2
  go_ret2
  exact ⟨rfl, _, rfl⟩

theorem within_ok (b o : Nat) (l : List UInt8) (x y : Int) (w : World) (h4 : 4 ≤ l.length) (hx : x ≤ head4 l) (hy : head4 l ≤ y) (h1 : RdAt w b o l) (hl : l.length ≤ 1000000000000) :
    Calls Try.prog 20 #[.pointer (some ⟨b, o, none⟩), .int .i64 x, .int .i64 y] w fun e w' => e = .returned (.tuple #[.int .i64 (head4 l), .int .i64 0]) ∧ ∃ n, w' = (w.drewN n).setCell ⟨b, o, none⟩ (.string ⟨(l.drop 4).toArray⟩) :=
  within_abs b o ⟨l.toArray⟩ _ _ x y w hx hy (by rw [size_mk]; exact h4) (by rw [size_mk]; exact hl) (by rw [size_mk, extract_mk, List.take_of_length_le (Nat.le_refl _)]) (fun _ => h1.1) (fun _ => h1.2) (next_some b o l w h4 h1 hl)

set_option maxHeartbeats 400000 in
theorem within_bad (b o : Nat) (l : List UInt8) (x y : Int) (w : World) (h4 : 4 ≤ l.length) (hx : head4 l < x ∨ (¬ head4 l < x ∧ y < head4 l)) (h1 : RdAt w b o l) (hl : l.length ≤ 1000000000000) :
    Calls Try.prog 20 #[.pointer (some ⟨b, o, none⟩), .int .i64 x, .int .i64 y] w fun e w' => e = .returned (.tuple #[.int .i64 0, .int .i64 2]) ∧ ∃ n, w' = w.drewN n := by
  rcases hx with hx | ⟨hx, hy⟩
  all_goals
    go_enter Try.func20, Try.ntmps20
    go_wp2_with (go_at_call 23; refine (next_some _ _ _ _ h4 h1 hl).mono ?_; rintro e w' ⟨rfl, n, rfl⟩)
    go_ret2
    exact ⟨rfl, _, rfl⟩

theorem within_short (b o : Nat) (l : List UInt8) (x y : Int) (w : World) (h4 : l.length < 4) (h1 : RdAt w b o l) :
    Calls Try.prog 20 #[.pointer (some ⟨b, o, none⟩), .int .i64 x, .int .i64 y] w fun e w' => e = .returned (.tuple #[.int .i64 0, .int .i64 3]) ∧ w = w' := by
  go_enter Try.func20, Try.ntmps20
  go_wp2_with (go_at_call 23; refine (next_short _ _ _ _ h4 h1).mono ?_; rintro e w' ⟨rfl, rfl⟩)
  go_ret2
  exact ⟨rfl, rfl⟩

theorem rnum_of (b o : Nat) (w : World) (z e : Int) (R : World → Prop)
    (hW : Calls Try.prog 20 #[.pointer (some ⟨b, o, none⟩), .int .i64 (-2147483648), .int .i64 2147483647] w fun e' w' => e' = .returned (.tuple #[.int .i64 z, .int .i64 e]) ∧ R w') :
    Calls Try.prog 15 #[.pointer (some ⟨b, o, none⟩)] w fun e' w' => e' = .returned (.tuple #[.int .i64 z, .int .i64 e]) ∧ R w' := by
  have HW := hid hW; clear hW
  go_enter Try.func15, Try.ntmps15
  go_wp2_with fail
  refine HW.out.mono ?_
  rintro e' w' ⟨rfl, hR⟩
  go_wp2
  go_ret2
  exact ⟨rfl, hR⟩

theorem clone_any (s : ByteArray) (w : World) (hlim : s.size ≤ 281474976710656) :
    Calls Try.prog 24 #[.string s] w fun e w' => e = .returned (.string s) ∧ Below w.heap.size w w' := by
  go_enter Try.func24, Try.ntmps24
  go_wp2_with (go_at_call 25; refine (Try.stringslite_Clone _ _ hlim).mono ?_; rintro e w' ⟨rfl, hb⟩)
  go_ret
  exact ⟨rfl, hb⟩

set_option maxHeartbeats 400000 in
theorem text_abs (b o : Nat) (S T S' : ByteArray) (z : Nat) (y : Int) (w : World) (hy : (z : Int) ≤ y) (hz : z + 4 ≤ S.size) (hl : S.size ≤ 1000000000000)
    (hT : S.extract 4 (4 + z) = T) (hT2 : T.size ≤ 281474976710656) (hex : S.extract (4 + z) S.size = S') (hb : b < w.heap.size) (hc : w.cell? ⟨b, o, none⟩ = some (.string S)) (hf : w.frozen? ⟨b, o, none⟩ = false)
    (hN : Calls Try.prog 23 #[.pointer (some ⟨b, o, none⟩)] w fun e w' => e = .returned (.tuple #[.int .i64 z, .int .i64 0]) ∧ ∃ n, w' = w.drewN n) :
    Calls Try.prog 16 #[.pointer (some ⟨b, o, none⟩), .int .i64 y] w fun e w' => e = .returned (.tuple #[.string T, .int .i64 0]) ∧ ∃ w1, w' = w1.setCell ⟨b, o, none⟩ (.string S') ∧ Below w.heap.size w w1 := by
  have HN := hid hN; clear hN
  go_enter Try.func16, Try.ntmps16
  go_wp2_with fail
  refine HN.out.mono ?_
  rintro e w' ⟨rfl, n, rfl⟩
  go_wp2_with fail
  refine (clone_any _ _ hT2).mono ?_
  rintro e w' ⟨rfl, hb1⟩
  have hb2 : Below w.heap.size w w' := (below_drewN (Below.refl _ w) n).trans hb1
  have hc1 := (hb2.cell (p := ⟨b, o, none⟩) hb).trans hc
  have hf1 := (hb2.frozen (p := ⟨b, o, none⟩) hb).trans hf
  clear hb1
  go_wp2
  go_ret2
  exact ⟨rfl, _, rfl, hb2⟩

theorem text_ok (b o : Nat) (l : List UInt8) (z : Nat) (y : Int) (w : World) (h4 : 4 ≤ l.length) (hz : head4 l = z) (hy : (z : Int) ≤ y) (hzl : z + 4 ≤ l.length) (h1 : RdAt w b o l) (hl : l.length ≤ 1000000000000) :
    Calls Try.prog 16 #[.pointer (some ⟨b, o, none⟩), .int .i64 y] w fun e w' => e = .returned (.tuple #[.string ⟨((l.drop 4).take z).toArray⟩, .int .i64 0]) ∧
      ∃ w1, w' = w1.setCell ⟨b, o, none⟩ (.string ⟨(l.drop (4 + z)).toArray⟩) ∧ Below w.heap.size w w1 :=
  text_abs b o ⟨l.toArray⟩ _ _ z y w hy (by rw [size_mk]; exact hzl) (by rw [size_mk]; exact hl) (by rw [extract_mk, List.drop_take, Nat.add_sub_cancel_left]) (by rw [size_mk]; exact Nat.le_trans (List.length_take_le _ _) (by omega))
    (by rw [size_mk, extract_mk, List.take_of_length_le (Nat.le_refl _)]) (World.block_lt_of_cell? w _ h1.1) h1.1 h1.2 (by rw [← hz]; exact next_some b o l w h4 h1 hl)

theorem text_bad1 (b o : Nat) (z y : Int) (w : World) (hx : z < 0 ∨ (¬ z < 0 ∧ y < z))
    (hN : Calls Try.prog 23 #[.pointer (some ⟨b, o, none⟩)] w fun e w' => e = .returned (.tuple #[.int .i64 z, .int .i64 0]) ∧ ∃ n, w' = w.drewN n) :
    Calls Try.prog 16 #[.pointer (some ⟨b, o, none⟩), .int .i64 y] w fun e w' => e = .returned (.tuple #[.string ⟨#[]⟩, .int .i64 2]) ∧ ∃ n, w' = w.drewN n := by
  have HN := hid hN; clear hN
  rcases hx with hx | ⟨hx, hy⟩
  all_goals
    go_enter Try.func16, Try.ntmps16
    go_wp2_with fail
    refine HN.out.mono ?_
    rintro e w' ⟨rfl, n, rfl⟩
    go_wp2
    go_ret2
    exact ⟨rfl, _, rfl⟩

theorem text_bad (b o : Nat) (l : List UInt8) (y : Int) (w : World) (h4 : 4 ≤ l.length) (hx : head4 l < 0 ∨ (¬ head4 l < 0 ∧ y < head4 l)) (h1 : RdAt w b o l) (hl : l.length ≤ 1000000000000) :
    Calls Try.prog 16 #[.pointer (some ⟨b, o, none⟩), .int .i64 y] w fun e w' => e = .returned (.tuple #[.string ⟨#[]⟩, .int .i64 2]) ∧ ∃ n, w' = w.drewN n :=
  text_bad1 b o _ y w hx (next_some b o l w h4 h1 hl)

theorem text_far1 (b o : Nat) (S : ByteArray) (z y : Int) (w : World) (hx : ¬ z < 0) (hy : ¬ y < z) (hz : (S.size : Int) - 4 < z) (hc : w.cell? ⟨b, o, none⟩ = some (.string S)) (hl : S.size ≤ 1000000000000)
    (hN : Calls Try.prog 23 #[.pointer (some ⟨b, o, none⟩)] w fun e w' => e = .returned (.tuple #[.int .i64 z, .int .i64 0]) ∧ ∃ n, w' = w.drewN n) :
    Calls Try.prog 16 #[.pointer (some ⟨b, o, none⟩), .int .i64 y] w fun e w' => e = .returned (.tuple #[.string ⟨#[]⟩, .int .i64 3]) ∧ ∃ n, w' = w.drewN n := by
  have HN := hid hN; clear hN
  have hc1 : ∀ n, (w.drewN n).cell? ⟨b, o, none⟩ = some (.string S) := fun _ => hc
  go_enter Try.func16, Try.ntmps16
  go_wp2_with fail
  refine HN.out.mono ?_
  rintro e w' ⟨rfl, n, rfl⟩
  go_wp2
  go_ret2
  exact ⟨rfl, _, rfl⟩

theorem text_far (b o : Nat) (l : List UInt8) (y : Int) (w : World) (h4 : 4 ≤ l.length) (hx : ¬ head4 l < 0) (hy : ¬ y < head4 l) (hz : (l.length : Int) - 4 < head4 l) (h1 : RdAt w b o l) (hl : l.length ≤ 1000000000000) :
    Calls Try.prog 16 #[.pointer (some ⟨b, o, none⟩), .int .i64 y] w fun e w' => e = .returned (.tuple #[.string ⟨#[]⟩, .int .i64 3]) ∧ ∃ n, w' = w.drewN n :=
  text_far1 b o ⟨l.toArray⟩ _ y w hx hy (by rw [size_mk]; exact hz) h1.1 (by rw [size_mk]; exact hl) (next_some b o l w h4 h1 hl)

theorem text_short (b o : Nat) (l : List UInt8) (y : Int) (w : World) (h4 : l.length < 4) (h1 : RdAt w b o l) :
    Calls Try.prog 16 #[.pointer (some ⟨b, o, none⟩), .int .i64 y] w fun e w' => e = .returned (.tuple #[.string ⟨#[]⟩, .int .i64 3]) ∧ w = w' := by
  go_enter Try.func16, Try.ntmps16
  go_wp2_with (go_at_call 23; refine (next_short _ _ _ _ h4 h1).mono ?_; rintro e w' ⟨rfl, rfl⟩)
  go_ret2
  exact ⟨rfl, rfl⟩

theorem left_any (b o : Nat) (l : List UInt8) (w : World) (h1 : RdAt w b o l) :
    Calls Try.prog 17 #[.pointer (some ⟨b, o, none⟩)] w fun e w' => e = .returned (.int .i64 l.length) ∧ w = w' := by
  obtain ⟨h1, _⟩ := h1
  go_enter Try.func17, Try.ntmps17
  go_wp2
  go_ret
  exact ⟨rfl, rfl⟩

theorem end_some (b o : Nat) (l : List UInt8) (w : World) (hn : l ≠ []) (h1 : RdAt w b o l) :
    Calls Try.prog 18 #[.pointer (some ⟨b, o, none⟩)] w fun e w' => e = .returned (.int .i64 4) ∧ w = w' := by
  obtain ⟨h1, _⟩ := h1
  have hne : l.isEmpty = false := by cases l <;> simp_all
  go_enter Try.func18, Try.ntmps18
  go_wp2
  go_ret
  exact ⟨rfl, rfl⟩

theorem end_none (b o : Nat) (w : World) (h1 : RdAt w b o []) :
    Calls Try.prog 18 #[.pointer (some ⟨b, o, none⟩)] w fun e w' => e = .returned (.int .i64 0) ∧ w = w' := by
  obtain ⟨h1, _⟩ := h1
  go_enter Try.func18, Try.ntmps18
  go_wp2
  go_ret
  exact ⟨rfl, rfl⟩

theorem new_any (S : ByteArray) (w : World) :
    Calls Try.prog 14 #[.string S] w fun e w' => e = .returned (.pointer (some ⟨w.heap.size, 0, none⟩)) ∧ w' = w.alloc (.cells #[.string S] 56) := by
  go_enter Try.func14, Try.ntmps14
  go_wp2
  go_ret
  exact ⟨rfl, rfl⟩

theorem RdAt.new (w : World) (l : List UInt8) (t : TypeId) : RdAt (w.alloc (.cells #[.string ⟨l.toArray⟩] t)) w.heap.size 0 l := by
  refine ⟨?_, ?_⟩
  · have := new_cells w #[.string ⟨l.toArray⟩] t 0 _ rfl
    rwa [addr_add] at this
  · rw [World.frozen?_alloc_new]

theorem RdAt.set {w : World} {b o : Nat} {l : List UInt8} (h : RdAt w b o l) (l' : List UInt8) : RdAt (w.setCell ⟨b, o, none⟩ (.string ⟨l'.toArray⟩)) b o l' :=
  ⟨World.cell?_setCell_same _ _ _ h.1, by rw [World.frozen?_setCell]; exact h.2⟩

theorem RdAt.below {w w' : World} {b o : Nat} {l : List UInt8} (h : RdAt w b o l) (hb : Below w.heap.size w w') : RdAt w' b o l :=
  have hl := World.block_lt_of_cell? w _ h.1
  ⟨(hb.cell (p := ⟨b, o, none⟩) hl).trans h.1, (hb.frozen (p := ⟨b, o, none⟩) hl).trans h.2⟩

end Go.Proofs.Ytimdgbklfldfkaa
