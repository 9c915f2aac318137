/- Layer 1, octet: the document's answers of the law's own package: a contract for each function. -/
import Derived.Test.YtpjoeljjhgchpaaDoorNum
import Derived.Deep.QuietTactic
import Derived.BigQuiet
namespace Go.Proofs.YtpjoeljjhgchpaaDoor
open Go.RowKit

theorem conv4 (w : World) (x0 x1 x2 x3 : Int) :
    (convert 66 9 (.slice (some ⟨w.heap.size, 0, none⟩) 4 4)).run Tryd.prog (w.alloc (.cells #[.int .u8 x0, .int .u8 x1, .int .u8 x2, .int .u8 x3] 5)) =
      .ok (.string (strOfNums [x0, x1, x2, x3])) (w.alloc (.cells #[.int .u8 x0, .int .u8 x1, .int .u8 x2, .int .u8 x3] 5)) := by
  refine run_convert_bytes_arg (P := Tryd.prog) _ 66 5 Tryd.underlying66 Tryd.underlying5 w.heap.size 0 4 4 [x0, x1, x2, x3] rfl (fun i hi => ?_) 9 Tryd.underlying9
  have h := new_cells w #[.int .u8 x0, .int .u8 x1, .int .u8 x2, .int .u8 x3] 5 i
  rw [addr_add] at h
  match i, hi with
  | 0, _ => exact h _ rfl
  | 1, _ => exact h _ rfl
  | 2, _ => exact h _ rfl
  | 3, _ => exact h _ rfl

def PutPost (n : Int) (w : World) (e : Ending) (w' : World) : Prop := ∃ l : List UInt8, e = .returned (.string ⟨l.toArray⟩) ∧ l.length = 4 ∧ (Num32 n → l = enc32 n) ∧ Below w.heap.size w w'

theorem put_mk (n : Int) (w : World) (x0 x1 x2 x3 : Int) (t : TypeId) (h : Num32 n → [x0, x1, x2, x3] = [n / 16777216 % 256, n / 65536 % 256, n / 256 % 256, n % 256]) :
    PutPost n w (.returned (.string (strOfNums [x0, x1, x2, x3]))) (w.alloc (.cells #[.int .u8 x0, .int .u8 x1, .int .u8 x2, .int .u8 x3] t)) := by
  refine ⟨[x0, x1, x2, x3].map fun n => UInt8.ofNat n.toNat, rfl, rfl, fun hn => ?_, (Below.refl _ _).alloc (Nat.le_refl _) _⟩
  rw [h hn]
  rfl

theorem put_any (n : Int) (w : World) (hw : (Lit.int .i64 n).wf = true) : Calls Tryd.prog 35 #[.int .i64 n] w (PutPost n w) := by
  have hb := bounds_i64 hw
  clear hw
  have kc := conv4
  by_cases h1 : n < 0
  · go_enter Tryd.func35, Tryd.ntmps35
    go_wp2
    go_ret
    refine put_mk n w _ _ _ _ _ fun hn => ?_
    obtain ⟨h2, h3⟩ := hn
    rw [Int.tdiv_eq_ediv_of_nonneg (by omega), Int.tdiv_eq_ediv_of_nonneg (by omega), Int.tdiv_eq_ediv_of_nonneg (by omega), Int.tmod_eq_emod_of_nonneg (by omega), Int.tmod_eq_emod_of_nonneg (by omega), Int.tmod_eq_emod_of_nonneg (by omega)]
    have e1 : (n + 4294967296) / 16777216 % 256 = n / 16777216 % 256 := by omega
    have e2 : (n + 4294967296) / 65536 % 256 % 256 = n / 65536 % 256 := by omega
    have e3 : (n + 4294967296) / 256 % 256 % 256 = n / 256 % 256 := by omega
    have e4 : (n + 4294967296) % 256 % 256 = n % 256 := by omega
    rw [e1, e2, e3, e4]
  · go_enter Tryd.func35, Tryd.ntmps35
    go_wp2
    go_ret
    exact put_mk n w _ _ _ _ _ fun _ => rfl

/-- Of a number. -/
theorem put_num (n : Int) (w : World) (h : Num32 n) (S : ByteArray) (hS : S = ⟨(enc32 n).toArray⟩) :
    Calls Tryd.prog 35 #[.int .i64 n] w fun e w' => e = .returned (.string S) ∧ Below w.heap.size w w' := by
  refine (put_any n w ?_).mono ?_
  · obtain ⟨h1, h2⟩ := h
    simp [Lit.wf, IntKind.min, IntKind.max, IntKind.signed, IntKind.bits]; omega
  · rintro e w' ⟨l, rfl, _, hl, hb⟩
    rw [hl h, hS]
    exact ⟨rfl, hb⟩

/-- The number that the first k bytes are. -/
def acc4 (p q r s : UInt8) : Nat → Int
  | 0 => 0
  | 1 => p.toNat
  | 2 => 256 * p.toNat + q.toNat
  | 3 => 256 * (256 * p.toNat + q.toNat) + r.toNat
  | _ => 256 * (256 * (256 * p.toNat + q.toNat) + r.toNat) + s.toNat

theorem get_abs (p q r s : UInt8) (S : ByteArray) (w : World) (h4s : 4 ≤ S.size) (hl : S.size ≤ 1000000000000)
    (i0 : ∀ w, (Instr.index 9 (.string S) (.int .i64 0)).run Tryd.prog w = .ok (.int .u8 p.toNat) w) (i1 : ∀ w, (Instr.index 9 (.string S) (.int .i64 1)).run Tryd.prog w = .ok (.int .u8 q.toNat) w)
    (i2 : ∀ w, (Instr.index 9 (.string S) (.int .i64 2)).run Tryd.prog w = .ok (.int .u8 r.toNat) w) (i3 : ∀ w, (Instr.index 9 (.string S) (.int .i64 3)).run Tryd.prog w = .ok (.int .u8 s.toNat) w) :
    Calls Tryd.prog 36 #[.string S] w fun e w' => e = .returned (.tuple #[.int .i64 (dec4 p q r s), .bool true]) ∧ w = w' := by
  have hp := p.toNat_lt; have hq := q.toNat_lt; have hr := r.toNat_lt; have hs := s.toNat_lt
  have h4d : decide ((S.size : Int) < 4) = false := by simp; omega
  clear h4s
  go_enter Tryd.func36, Tryd.ntmps36
  go_wp2_with fail
  go_loop [4, 5] (fun n i => ∃ k : Nat, k ≤ 4 ∧ i = .int .i64 k ∧ n = .int .i64 (acc4 p q r s k)) (fun _ i => (4 - intOf i).toNat)
  case atStart => exact ⟨0, by omega, rfl, rfl⟩
  case round =>
    obtain ⟨k, hk, rfl, rfl⟩ := hrel
    by_cases hlt : k < 4
    · match k, hlt with
      | 0, _ =>
        simp only [acc4]
        go_wp2
        go_round
        case rel => exact ⟨1, by omega, rfl, by simp⟩
        case measure => simp [intOf]
      | 1, _ =>
        simp only [acc4]
        go_wp2
        go_round
        case rel => exact ⟨2, by omega, rfl, by simp⟩
        case measure => simp [intOf]
      | 2, _ =>
        simp only [acc4]
        go_wp2
        go_round
        case rel => exact ⟨3, by omega, rfl, by simp⟩
        case measure => simp [intOf]
      | 3, _ =>
        simp only [acc4]
        go_wp2
        go_round
        case rel => exact ⟨4, by omega, rfl, by simp⟩
        case measure => simp [intOf]
    · have h4 : k = 4 := by omega
      obtain ⟨N, hN⟩ : ∃ N : Int, N = acc4 p q r s k := ⟨_, rfl⟩
      rw [← hN]
      rw [h4] at hN
      have hd := dec4_of p q r s N (by rw [hN]; rfl)
      have hN0 : 0 ≤ N := by simp only [hN, acc4]; omega
      have hN1 : N ≤ 4294967295 := by simp only [hN, acc4]; omega
      have HD := hid hd; clear hd hN hp hq hr hs i0 i1 i2 i3 h4
      have hk4 : decide ((k : Int) < 4) = false := by simp; omega
      clear hlt hk
      by_cases hb : N < 2147483648
      · go_wp2
        go_ret2
        exact ⟨ret2_int (by rw [HD.out, if_pos hb]), rfl⟩
      · go_wp2
        go_ret2
        exact ⟨ret2_int (by rw [HD.out, if_neg (by omega)]), rfl⟩

theorem get_ok (S : ByteArray) (w : World) (h4 : 4 ≤ S.size) (hl : S.size ≤ 1000000000000) :
    Calls Tryd.prog 36 #[.string S] w fun e w' => e = .returned (.tuple #[.int .i64 (head4 S.data.toList), .bool true]) ∧ w = w' := by
  have e := quad S.data.toList (by rw [← size_list]; exact h4)
  have g : ∀ i : Nat, S.data.toList[i]? = (S.data.toList.getD 0 0 :: S.data.toList.getD 1 0 :: S.data.toList.getD 2 0 :: S.data.toList.getD 3 0 :: S.data.toList.drop 4)[i]? := fun i => by rw [← e]
  exact get_abs _ _ _ _ S w h4 hl (idx_u8 _ 0 _ (by rw [g]; rfl)) (idx_u8 _ 1 _ (by rw [g]; rfl)) (idx_u8 _ 2 _ (by rw [g]; rfl)) (idx_u8 _ 3 _ (by rw [g]; rfl))

theorem get_short (S : ByteArray) (w : World) (h4 : S.size < 4) :
    Calls Tryd.prog 36 #[.string S] w fun e w' => e = .returned (.tuple #[.int .i64 0, .bool false]) ∧ w = w' := by
  go_enter Tryd.func36, Tryd.ntmps36
  go_wp2
  go_ret2
  exact ⟨rfl, rfl⟩

end Go.Proofs.YtpjoeljjhgchpaaDoor
