/- Layer 1, octet: the Reader: a contract for each method. -/
import Derived.Test.YtpjoeljjhgchpaaDoorNum
import Derived.Test.YtpjoeljjhgchpaaDoorShelf
import Derived.Deep.QuietTactic
import Derived.BigQuiet
namespace Go.Proofs.YtpjoeljjhgchpaaDoor
open Go.RowKit

/-- A Reader at (b, o) that has bs left. -/
def RdAt (w : World) (b o : Nat) (bs : List UInt8) : Prop := w.cell? ⟨b, o, none⟩ = some (.string ⟨bs.toArray⟩) ∧ w.frozen? ⟨b, o, none⟩ = false

theorem or32 (k A B : Nat) (hB : B < 2 ^ k) (h : 2 ^ k * A + B < 4294967296) (x y : Int) (hx : x = ((2 ^ k * A : Nat) : Int)) (hy : y = (B : Int)) : bits .or .u32 x y = ((2 ^ k * A + B : Nat) : Int) := by
  subst hx hy
  have h1 : (BitVec.ofInt 32 ((2 ^ k * A : Nat) : Int)).toNat = 2 ^ k * A := by
    rw [BitVec.ofInt_natCast, BitVec.toNat_ofNat]; exact Nat.mod_eq_of_lt (by omega)
  have h2 : (BitVec.ofInt 32 (B : Int)).toNat = B := by
    rw [BitVec.ofInt_natCast, BitVec.toNat_ofNat]; exact Nat.mod_eq_of_lt (by omega)
  show IntKind.u32.wrap ((BitVec.ofInt 32 ((2 ^ k * A : Nat) : Int) ||| BitVec.ofInt 32 (B : Int)).toNat : Int) = _
  rw [BitVec.toNat_or, h1, h2, ← Nat.two_pow_add_eq_or_of_lt hB]
  have e : ∀ n : Int, IntKind.u32.wrap n = n % 4294967296 := fun n => by simp [IntKind.wrap, IntKind.bits, IntKind.signed]
  rw [e]
  omega

theorem dec_bits (p q r s : UInt8) : wrap64 (wrap32 (bits BinOp.or IntKind.u32 (bits BinOp.or IntKind.u32 (bits BinOp.or IntKind.u32 ((p.toNat : Int) % 4294967296 * 16777216 % 4294967296)
    ((q.toNat : Int) % 4294967296 * 65536 % 4294967296)) ((r.toNat : Int) % 4294967296 * 256 % 4294967296)) ((s.toNat : Int) % 4294967296))) = dec4 p q r s := by
  have hp := p.toNat_lt; have hq := q.toNat_lt; have hr := r.toNat_lt; have hs := s.toNat_lt
  have e1 := or32 24 p.toNat (65536 * q.toNat) (by omega) (by omega) ((p.toNat : Int) % 4294967296 * 16777216 % 4294967296) ((q.toNat : Int) % 4294967296 * 65536 % 4294967296) (by omega) (by omega)
  have e2 := or32 8 (65536 * p.toNat + 256 * q.toNat + r.toNat) s.toNat (by omega) (by omega)
    (bits BinOp.or IntKind.u32 (bits BinOp.or IntKind.u32 ((p.toNat : Int) % 4294967296 * 16777216 % 4294967296) ((q.toNat : Int) % 4294967296 * 65536 % 4294967296)) ((r.toNat : Int) % 4294967296 * 256 % 4294967296)) ((s.toNat : Int) % 4294967296)
    (by
      have e3 := or32 16 (256 * p.toNat + q.toNat) (256 * r.toNat) (by omega) (by omega) (bits BinOp.or IntKind.u32 ((p.toNat : Int) % 4294967296 * 16777216 % 4294967296) ((q.toNat : Int) % 4294967296 * 65536 % 4294967296)) ((r.toNat : Int) % 4294967296 * 256 % 4294967296)
        (by rw [e1]; omega) (by omega)
      rw [e3]; omega) (by omega)
  rw [e2]
  rw [dec4_eq]
  simp only [wrap64, wrap32]
  omega

set_option maxHeartbeats 400000 in
theorem next_abs (b o : Nat) (p q r s : UInt8) (S : ByteArray) (h4 : 4 ≤ S.size)
    (i0 : ∀ w, (Instr.index 9 (.string S) (.int .i64 0)).run Tryd.prog w = .ok (.int .u8 p.toNat) w) (i1 : ∀ w, (Instr.index 9 (.string S) (.int .i64 1)).run Tryd.prog w = .ok (.int .u8 q.toNat) w)
    (i2 : ∀ w, (Instr.index 9 (.string S) (.int .i64 2)).run Tryd.prog w = .ok (.int .u8 r.toNat) w) (i3 : ∀ w, (Instr.index 9 (.string S) (.int .i64 3)).run Tryd.prog w = .ok (.int .u8 s.toNat) w)
    (w : World) (h1 : w.cell? ⟨b, o, none⟩ = some (.string S)) (hl : S.size ≤ 1000000000000) :
    Calls Tryd.prog 59 #[.pointer (some ⟨b, o, none⟩)] w fun e w' => e = .returned (.tuple #[.int .i64 (dec4 p q r s), .int .i64 0]) ∧ ∃ n, w' = w.drewN n := by
  go_enter Tryd.func59, Tryd.ntmps59
  go_wp2_with fail
  go_quiet (fail)
  go_wp2
  go_ret2
  exact ⟨ret2_int (dec_bits p q r s), _, rfl⟩

theorem next_some (b o : Nat) (l : List UInt8) (w : World) (h4 : 4 ≤ l.length) (h1 : RdAt w b o l) (hl : l.length ≤ 1000000000000) :
    Calls Tryd.prog 59 #[.pointer (some ⟨b, o, none⟩)] w fun e w' => e = .returned (.tuple #[.int .i64 (head4 l), .int .i64 0]) ∧ ∃ n, w' = w.drewN n := by
  have e := quad l h4
  have hd : (⟨l.toArray⟩ : ByteArray).data.toList = l := by simp
  have g : ∀ i : Nat, l[i]? = (l.getD 0 0 :: l.getD 1 0 :: l.getD 2 0 :: l.getD 3 0 :: l.drop 4)[i]? := fun i => by rw [← e]
  exact next_abs b o _ _ _ _ ⟨l.toArray⟩ (by rw [size_mk]; exact h4) (idx_u8 _ 0 _ (by rw [hd, g]; rfl)) (idx_u8 _ 1 _ (by rw [hd, g]; rfl)) (idx_u8 _ 2 _ (by rw [hd, g]; rfl)) (idx_u8 _ 3 _ (by rw [hd, g]; rfl)) w h1.1 (by rw [size_mk]; exact hl)

theorem next_short (b o : Nat) (l : List UInt8) (w : World) (h4 : l.length < 4) (h1 : RdAt w b o l) :
    Calls Tryd.prog 59 #[.pointer (some ⟨b, o, none⟩)] w fun e w' => e = .returned (.tuple #[.int .i64 0, .int .i64 3]) ∧ w = w' := by
  obtain ⟨h1, _⟩ := h1
  go_enter Tryd.func59, Tryd.ntmps59
  go_wp2
  go_ret2
  exact ⟨rfl, rfl⟩

/-- What a number within bounds answers: the number and the error. -/
def withinV (l : List UInt8) (x y : Int) : Int × Int :=
  if l.length < 4 then (0, 3) else if head4 l < x ∨ y < head4 l then (0, 2) else (head4 l, 0)

theorem RdAt.drewN {w : World} {b o : Nat} {l : List UInt8} (h : RdAt w b o l) (n : Nat) : RdAt (w.drewN n) b o l := h

set_option maxHeartbeats 400000 in
theorem within_abs (b o : Nat) (S S' : ByteArray) (z x y : Int) (w : World) (hx : x ≤ z) (hy : z ≤ y) (h4 : 4 ≤ S.size) (hl : S.size ≤ 1000000000000)
    (hex : S.extract 4 S.size = S') (hc : ∀ n, (w.drewN n).cell? ⟨b, o, none⟩ = some (.string S)) (hf : ∀ n, (w.drewN n).frozen? ⟨b, o, none⟩ = false)
    (hN : Calls Tryd.prog 59 #[.pointer (some ⟨b, o, none⟩)] w fun e w' => e = .returned (.tuple #[.int .i64 z, .int .i64 0]) ∧ ∃ n, w' = w.drewN n) :
    Calls Tryd.prog 47 #[.pointer (some ⟨b, o, none⟩), .int .i64 x, .int .i64 y] w fun e w' => e = .returned (.tuple #[.int .i64 z, .int .i64 0]) ∧ ∃ n, w' = (w.drewN n).setCell ⟨b, o, none⟩ (.string S') := by
  have HN := hid hN; clear hN
  go_enter Tryd.func47, Tryd.ntmps47
  go_wp2_with fail
  refine HN.out.mono ?_
  rintro e w' ⟨rfl, n, rfl⟩
  go_wp2
  go_ret2
  exact ⟨rfl, _, rfl⟩

theorem within_ok (b o : Nat) (l : List UInt8) (x y : Int) (w : World) (h4 : 4 ≤ l.length) (hx : x ≤ head4 l) (hy : head4 l ≤ y) (h1 : RdAt w b o l) (hl : l.length ≤ 1000000000000) :
    Calls Tryd.prog 47 #[.pointer (some ⟨b, o, none⟩), .int .i64 x, .int .i64 y] w fun e w' => e = .returned (.tuple #[.int .i64 (head4 l), .int .i64 0]) ∧ ∃ n, w' = (w.drewN n).setCell ⟨b, o, none⟩ (.string ⟨(l.drop 4).toArray⟩) :=
  within_abs b o ⟨l.toArray⟩ _ _ x y w hx hy (by rw [size_mk]; exact h4) (by rw [size_mk]; exact hl) (by rw [size_mk, extract_mk, List.take_of_length_le (Nat.le_refl _)]) (fun _ => h1.1) (fun _ => h1.2) (next_some b o l w h4 h1 hl)

set_option maxHeartbeats 400000 in
theorem within_bad (b o : Nat) (l : List UInt8) (x y : Int) (w : World) (h4 : 4 ≤ l.length) (hx : head4 l < x ∨ (¬ head4 l < x ∧ y < head4 l)) (h1 : RdAt w b o l) (hl : l.length ≤ 1000000000000) :
    Calls Tryd.prog 47 #[.pointer (some ⟨b, o, none⟩), .int .i64 x, .int .i64 y] w fun e w' => e = .returned (.tuple #[.int .i64 0, .int .i64 2]) ∧ ∃ n, w' = w.drewN n := by
  rcases hx with hx | ⟨hx, hy⟩
  all_goals
    go_enter Tryd.func47, Tryd.ntmps47
    go_wp2_with (go_at_call 59; refine (next_some _ _ _ _ h4 h1 hl).mono ?_; rintro e w' ⟨rfl, n, rfl⟩)
    go_ret2
    exact ⟨rfl, _, rfl⟩

theorem within_short (b o : Nat) (l : List UInt8) (x y : Int) (w : World) (h4 : l.length < 4) (h1 : RdAt w b o l) :
    Calls Tryd.prog 47 #[.pointer (some ⟨b, o, none⟩), .int .i64 x, .int .i64 y] w fun e w' => e = .returned (.tuple #[.int .i64 0, .int .i64 3]) ∧ w = w' := by
  go_enter Tryd.func47, Tryd.ntmps47
  go_wp2_with (go_at_call 59; refine (next_short _ _ _ _ h4 h1).mono ?_; rintro e w' ⟨rfl, rfl⟩)
  go_ret2
  exact ⟨rfl, rfl⟩

theorem rnum_of (b o : Nat) (w : World) (z e : Int) (R : World → Prop)
    (hW : Calls Tryd.prog 47 #[.pointer (some ⟨b, o, none⟩), .int .i64 (-2147483648), .int .i64 2147483647] w fun e' w' => e' = .returned (.tuple #[.int .i64 z, .int .i64 e]) ∧ R w') :
    Calls Tryd.prog 48 #[.pointer (some ⟨b, o, none⟩)] w fun e' w' => e' = .returned (.tuple #[.int .i64 z, .int .i64 e]) ∧ R w' := by
  have HW := hid hW; clear hW
  go_enter Tryd.func48, Tryd.ntmps48
  go_wp2_with fail
  refine HW.out.mono ?_
  rintro e' w' ⟨rfl, hR⟩
  go_wp2
  go_ret2
  exact ⟨rfl, hR⟩

theorem left_any (b o : Nat) (l : List UInt8) (w : World) (h1 : RdAt w b o l) :
    Calls Tryd.prog 20 #[.pointer (some ⟨b, o, none⟩)] w fun e w' => e = .returned (.int .i64 l.length) ∧ w = w' := by
  obtain ⟨h1, _⟩ := h1
  go_enter Tryd.func20, Tryd.ntmps20
  go_wp2
  go_ret
  exact ⟨rfl, rfl⟩

theorem new_any (S : ByteArray) (w : World) :
    Calls Tryd.prog 17 #[.string S] w fun e w' => e = .returned (.pointer (some ⟨w.heap.size, 0, none⟩)) ∧ w' = w.alloc (.cells #[.string S] 70) := by
  go_enter Tryd.func17, Tryd.ntmps17
  go_wp2
  go_ret
  exact ⟨rfl, rfl⟩

theorem RdAt.new (w : World) (l : List UInt8) (t : TypeId) : RdAt (w.alloc (.cells #[.string ⟨l.toArray⟩] t)) w.heap.size 0 l := by
  refine ⟨?_, ?_⟩
  · have := new_cells w #[.string ⟨l.toArray⟩] t 0 _ rfl
    rwa [addr_add] at this
  · rw [World.frozen?_alloc_new]

theorem RdAt.set {w : World} {b o : Nat} {l : List UInt8} (h : RdAt w b o l) (l' : List UInt8) : RdAt (w.setCell ⟨b, o, none⟩ (.string ⟨l'.toArray⟩)) b o l' :=
  ⟨World.cell?_setCell_same _ _ _ h.1, by rw [World.frozen?_setCell]; exact h.2⟩

theorem RdAt.below {w w' : World} {b o : Nat} {l : List UInt8} (h : RdAt w b o l) (hb : Below w.heap.size w w') : RdAt w' b o l :=
  have hl := World.block_lt_of_cell? w _ h.1
  ⟨(hb.cell (p := ⟨b, o, none⟩) hl).trans h.1, (hb.frozen (p := ⟨b, o, none⟩) hl).trans h.2⟩

end Go.Proofs.YtpjoeljjhgchpaaDoor
