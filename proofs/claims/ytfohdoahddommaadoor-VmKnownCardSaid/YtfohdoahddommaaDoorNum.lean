/- Numbers and their four bytes: plain facts. -/
import Derived.Test.YtfohdoahddommaaDoorBase
namespace Go.Proofs.YtfohdoahddommaaDoor
open Go.RowKit

/-- A number's four bytes, the highest first. -/
def enc32 (n : Int) : List UInt8 :=
  [UInt8.ofNat ((n / 16777216) % 256).toNat, UInt8.ofNat ((n / 65536) % 256).toNat, UInt8.ofNat ((n / 256) % 256).toNat, UInt8.ofNat (n % 256).toNat]
def encs (l : List Int) : List UInt8 := l.flatMap enc32

theorem enc32_len (n : Int) : (enc32 n).length = 4 := rfl
theorem encs_len : ∀ l : List Int, (encs l).length = 4 * l.length
  | [] => rfl
  | n :: l => by simp only [encs, List.flatMap_cons, List.length_append, enc32_len, List.length_cons]; have := encs_len l; simp only [encs] at this; omega
theorem encs_snoc (l : List Int) (k : Nat) (h : k < l.length) : encs (l.take (k + 1)) = encs (l.take k) ++ enc32 (l.getD k 0) := by
  rw [encs, encs, List.take_succ_eq_append_getElem h, List.flatMap_append, List.flatMap_singleton, List.getD_eq_getElem?_getD, List.getElem?_eq_getElem h]
  rfl
theorem enc32_cells (z : Int) : u8s (enc32 z) = [.int .u8 (z / 16777216 % 256), .int .u8 (z / 65536 % 256), .int .u8 (z / 256 % 256), .int .u8 (z % 256)] := by
  simp only [u8s, enc32, List.map_cons, List.map_nil]
  rw [u8_val _ (by omega) (by omega), u8_val _ (by omega) (by omega), u8_val _ (by omega) (by omega), u8_val _ (by omega) (by omega)]

theorem u8info : (Tryd.prog.info? 5).map (fun i => (i.zero, i.size, i.bytes)) = some (some (.int .u8 0), 1, 1) := by kernel_rfl

def Num32 (n : Int) : Prop := -2147483648 ≤ n ∧ n ≤ 2147483647
instance (n : Int) : Decidable (Num32 n) := by unfold Num32; infer_instance

/-- The number that four bytes are. -/
def dec4 (a b c d : UInt8) : Int := (16777216 * (a.toNat : Int) + 65536 * b.toNat + 256 * c.toNat + d.toNat + 2147483648) % 4294967296 - 2147483648

theorem dec4_eq (a b c d : UInt8) : dec4 a b c d = (16777216 * (a.toNat : Int) + 65536 * b.toNat + 256 * c.toNat + d.toNat + 2147483648) % 4294967296 - 2147483648 := rfl

theorem dec4_of (p q r s : UInt8) (N : Int) (h : N = 256 * (256 * (256 * (p.toNat : Int) + q.toNat) + r.toNat) + s.toNat) : dec4 p q r s = if N < 2147483648 then N else N - 4294967296 := by
  have hp := p.toNat_lt; have hq := q.toNat_lt; have hr := r.toNat_lt; have hs := s.toNat_lt
  subst h
  unfold dec4
  split <;> omega

attribute [irreducible] dec4

theorem size_mk (l : List UInt8) : (⟨l.toArray⟩ : ByteArray).size = l.length := by show l.toArray.size = _; simp
theorem extract_mk (l : List UInt8) (a b : Nat) : (⟨l.toArray⟩ : ByteArray).extract a b = ⟨((l.take b).drop a).toArray⟩ := by
  apply ByteArray.ext
  simp [ByteArray.data_extract, List.extract_eq_take_drop, List.drop_take]

theorem quad (l : List UInt8) (h : 4 ≤ l.length) : l = l.getD 0 0 :: l.getD 1 0 :: l.getD 2 0 :: l.getD 3 0 :: l.drop 4 := by
  match l, h with
  | a :: b :: c :: d :: r, _ => rfl

theorem idx_u8 (S : ByteArray) (i : Nat) (p : UInt8) (h : S.data.toList[i]? = some p) (w : World) :
    (Instr.index 9 (.string S) (.int .i64 i)).run Tryd.prog w = .ok (.int .u8 p.toNat) w := by
  have hi : i < S.data.toList.length := by
    rcases Nat.lt_or_ge i S.data.toList.length with h1 | h1
    · exact h1
    · rw [List.getElem?_eq_none h1] at h; cases h
  have hs : i < S.size := by show i < S.data.size; simpa using hi
  rw [run_index_string _ _ _ _ _ Tryd.underlying9, dif_pos (by omega)]
  have : S[(i : Int).toNat]'(by omega) = p := by
    rw [List.getElem?_eq_getElem hi] at h
    injection h with h
  rw [this]

theorem dec4_bd (p q r s : UInt8) : -2147483648 ≤ dec4 p q r s ∧ dec4 p q r s ≤ 2147483647 := by unfold dec4; omega

/-- The first four bytes, as a number. -/
def head4 (l : List UInt8) : Int := dec4 (l.getD 0 0) (l.getD 1 0) (l.getD 2 0) (l.getD 3 0)

theorem head_enc (n : Int) (h : Num32 n) (r : List UInt8) : head4 (enc32 n ++ r) = n := by
  obtain ⟨h1, h2⟩ := h
  have e : head4 (enc32 n ++ r) = dec4 (UInt8.ofNat ((n / 16777216) % 256).toNat) (UInt8.ofNat ((n / 65536) % 256).toNat) (UInt8.ofNat ((n / 256) % 256).toNat) (UInt8.ofNat (n % 256).toNat) := rfl
  rw [e]
  unfold dec4
  rw [u8_val _ (by omega) (by omega), u8_val _ (by omega) (by omega), u8_val _ (by omega) (by omega), u8_val _ (by omega) (by omega)]
  omega

theorem encs_cons (n : Int) (l : List Int) : encs (n :: l) = enc32 n ++ encs l := by simp [encs]

theorem encs_inj : ∀ {a b : List Int}, (∀ n ∈ a, Num32 n) → (∀ n ∈ b, Num32 n) → encs a = encs b → a = b
  | [], [], _, _, _ => rfl
  | [], n :: b, _, _, h => by have := congrArg List.length h; rw [encs_len, encs_len] at this; simp at this
  | n :: a, [], _, _, h => by have := congrArg List.length h; rw [encs_len, encs_len] at this; simp at this
  | n :: a, m :: b, ha, hb, h => by
    rw [encs_cons, encs_cons] at h
    have e : n = m := by
      have := congrArg head4 h
      rw [head_enc n (ha n (by simp)), head_enc m (hb m (by simp))] at this
      exact this
    subst e
    rw [encs_inj (fun x hx => ha x (by simp [hx])) (fun x hx => hb x (by simp [hx])) (List.append_cancel_left h)]

end Go.Proofs.YtfohdoahddommaaDoor
