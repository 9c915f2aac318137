/- Layer 5, check: what is trimmed: contract of staying. -/
import Derived.Test.YtfohdoahddommaaDoorTrmA
import Derived.Test.YtfohdoahddommaaDoorChkD
namespace Go.Proofs.YtfohdoahddommaaDoor
open Go.RowKit Go.Lib
set_option linter.unusedVariables false
set_option maxRecDepth 100000

theorem boolInfo5 : (Tryd.prog.info? 4).map (fun i => (i.zero, i.size, i.bytes)) = some (some (.bool false), 1, 1) := by kernel_rfl

def falses (n : Nat) : Array Value := (List.replicate n (Value.bool false)).toArray

theorem made_falses (n : Nat) : madeCells #[.bool false] n = falses n := by
  unfold madeCells falses
  apply Array.ext
  · simp
  · intro i h1 h2
    simp [Nat.mod_one]

theorem make_bools (n : Nat) (hn : n ≤ 1000000) (W : World) :
    (Instr.makeSlice 71 (.int .i64 n) (.int .i64 n)).run Tryd.prog W = .ok (.slice (some ⟨W.heap.size, 0, none⟩) n n) (W.alloc (.cells (falses n) 4)) := by
  obtain ⟨i0, hi, hz0, hz1, hz2⟩ := info_parts boolInfo5
  have := run_make W 71 4 i0 (.bool false) Tryd.underlying71 hi hz0 .i64 .i64 n n (by omega) (Int.le_refl _) (by rw [hz2]; omega) (by omega)
  rw [hz1, Int.toNat_natCast, Nat.mul_one] at this
  rw [this]
  congr 3
  exact made_falses n

/-- Whether place k stays, when it is known of all behind it. -/
def stCond (l : List (Int × Int)) (D : List Int) (S : List Bool) (k : Nat) : Bool := decide (D.getD k 0 ≠ -1) && (decide (opAt l k ≠ 16) || decide (0 < leaptN l S k))

/-- From the last back: m places are decided. -/
def stTo (l : List (Int × Int)) (D : List Int) : Nat → List Bool
  | 0 => List.replicate l.length false
  | m + 1 => (stTo l D m).set (l.length - 1 - m) (stCond l D (stTo l D m) (l.length - 1 - m))

theorem stTo_len (l : List (Int × Int)) (D : List Int) (m : Nat) : (stTo l D m).length = l.length := by
  induction m with
  | zero => simp [stTo]
  | succ m ih => simp [stTo, ih]

/-- Block b is the call's own, and holds the bools S. -/
structure BlAt (W w : World) (b : Nat) (S : List Bool) : Prop where
  c : ∀ j, j < S.length → w.cell? ⟨b, j, none⟩ = some (.bool (S.getD j false))
  f : ∀ j, w.frozen? ⟨b, j, none⟩ = false
  lt : b < w.heap.size
  ge : W.heap.size ≤ b
  bel : Below W.heap.size W w

theorem BlAt.new (W : World) (n : Nat) : BlAt W (W.alloc (.cells (falses n) 4)) W.heap.size (List.replicate n false) := by
  have hb := (Below.refl W.heap.size W).alloc (Nat.le_refl _) (.cells (falses n) 4)
  refine ⟨fun j hj => ?_, fun j => by rw [World.frozen?_alloc_new], by rw [World.size_alloc]; omega, Nat.le_refl _, hb⟩
  have hj' : j < n := by simpa using hj
  have h1 : (falses n)[j]? = some (.bool false) := by simp [falses, hj']
  have h2 := new_cells W (falses n) 4 j _ h1
  rw [addr_add] at h2
  simpa [List.getD_eq_getElem?_getD, hj'] using h2

theorem BlAt.sl {W w : World} {b : Nat} {S : List Bool} (h : BlAt W w b S) : SlB w w.heap.size (.slice (some ⟨b, 0, none⟩) S.length S.length) S :=
  ⟨_, _, rfl, Nat.le_refl _, fun _ => ⟨b, 0, rfl, h.lt, fun j hj => by rw [Nat.zero_add]; exact h.c j hj⟩⟩

theorem BlAt.on {W w w' : World} {b : Nat} {S : List Bool} (h : BlAt W w b S) (hb : Below w.heap.size w w') : BlAt W w' b S :=
  ⟨fun j hj => (hb.cell (p := ⟨b, j, none⟩) h.lt).trans (h.c j hj), fun j => ((bcell hb).2 b j h.lt).trans (h.f j), Nat.lt_of_lt_of_le h.lt hb.size, h.ge, h.bel.trans (hb.mono h.bel.size)⟩

theorem BlAt.put {W w : World} {b : Nat} {S : List Bool} (h : BlAt W w b S) {k : Nat} (hk : k < S.length) (x : Bool) : BlAt W (w.setCell ⟨b, k, none⟩ (.bool x)) b (S.set k x) := by
  refine ⟨fun j hj => ?_, fun j => by rw [World.frozen?_setCell]; exact h.f j, by simpa [World.setCell] using h.lt, h.ge, h.bel.setCell h.ge _⟩
  have hj' : j < S.length := by simpa using hj
  by_cases hjk : j = k
  · subst hjk
    rw [World.cell?_setCell_same _ _ _ (h.c j hk), List.getD_eq_getElem?_getD, List.getElem?_set_self hk]
    rfl
  · rw [World.cell?_setCell_other _ _ _ _ (by intro e; injection e with e1 e2; exact hjk (by omega)), List.getD_eq_getElem?_getD, List.getElem?_set_ne (fun e => hjk e.symm), ← List.getD_eq_getElem?_getD]
    exact h.c j hj'

theorem gtr0 (n : Nat) : decide ((0 : Int) < (n : Int)) = decide (0 < n) := by
  by_cases h : 0 < n
  · rw [decide_eq_true h, decide_eq_true (by omega)]
  · rw [decide_eq_false h, decide_eq_false (by omega)]

set_option maxHeartbeats 2000000 in
theorem staying_any (v vd : Value) (l : List (Int × Int)) (D : List Int) (w : World) (hv : SlV w w.heap.size v l) (hd : SlI w w.heap.size .i64 vd D) (hl : l.length ≤ 1000) (hD : D.length = l.length) (har : ∀ k, k < l.length → opAt l k = 15 ∨ opAt l k = 16 → 0 ≤ arAt l k ∧ arAt l k ≤ 1000000) :
    Calls Tryd.prog 30 #[v, vd] w fun e w' => ∃ b, e = .returned (.slice (some ⟨b, 0, none⟩) l.length l.length) ∧ Hid (BlAt w w' b (stTo l D l.length)) := by
  have HV := hid hv
  have HD := hid hd
  have HAR := hid har
  obtain ⟨A, c, rfl, hc, hA⟩ := hv
  obtain ⟨A2, c2, rfl, hc2, hA2⟩ := hd
  have HA := hid hA; have HA2 := hid hA2
  clear hA hA2 har
  have hmk := make_bools l.length (by omega) w
  obtain ⟨n, hn⟩ : ∃ n, l.length = n := ⟨_, rfl⟩
  rw [hD] at hc2 HA2 HD ⊢
  rw [hn] at hl hc hc2 HA HA2 HV HD hmk HAR ⊢
  have HN := hid hn
  have HDN := hid hD
  clear hn hD
  go_enter Tryd.func30, Tryd.ntmps30
  go_wp2_with fail
  go_loopw [6] (fun i wr => ∃ m : Nat, m ≤ n ∧ i = .int .i64 ((n : Int) - 1 - (m : Int)) ∧ Hid (BlAt w wr w.heap.size (stTo l D m))) (fun i _ => (RowKit.intOf i + 1).toNat)
  case atStart => exact ⟨0, Nat.zero_le _, by go_num, hid (by show BlAt _ _ _ (List.replicate l.length false); rw [HN.out]; exact BlAt.new w n)⟩
  case round =>
    obtain ⟨m, hm, rfl, hbl⟩ := hrel
    by_cases hlt : m < n
    · obtain ⟨k, hk⟩ : ∃ k, n - 1 - m = k := ⟨_, rfl⟩
      have hki : (n : Int) - 1 - (m : Int) = (k : Int) := by omega
      have hkn : k < n := by omega
      have HST : Hid (stTo l D (m + 1) = (stTo l D m).set k (stCond l D (stTo l D m) k)) := hid (by show (stTo l D m).set (l.length - 1 - m) (stCond l D (stTo l D m) (l.length - 1 - m)) = _; rw [HN.out, hk])
      have hm1 : (k : Int) - 1 = (n : Int) - 1 - ((m + 1 : Nat) : Int) := by omega
      have HM1 := hid hm1
      clear hm1 hk
      rw [hki]
      clear hki
      have hSl : (stTo l D m).length = n := by rw [stTo_len, HN.out]
      obtain ⟨S, hS⟩ : ∃ S, stTo l D m = S := ⟨_, rfl⟩
      rw [hS] at hSl HST hbl
      clear hS
      have HSL := hid hSl
      clear hSl
      obtain ⟨b1, o1, rfl, hb1, hcell⟩ := HA.out (by omega)
      obtain ⟨b2, o2, rfl, hb2, hcell2⟩ := HA2.out (by omega)
      obtain ⟨ca, cb⟩ := hcell k hkn
      have cd := hcell2 k hkn
      obtain ⟨o, a, hoa⟩ := pair_of (p := l.getD k (0, 0))
      rw [hoa] at ca cb
      have HO : Hid (opAt l k = o) := hid (by unfold opAt; rw [hoa])
      clear hoa hcell hcell2
      obtain ⟨dk, hdk⟩ : ∃ z, D.getD k 0 = z := ⟨_, rfl⟩
      rw [hdk] at cd
      have HDK := hid hdk; clear hdk
      have ca' := (hbl.out.bel.cell (p := ⟨b1, o1 + k * 2, none⟩) hb1).trans ca
      have cd' := (hbl.out.bel.cell (p := ⟨b2, o2 + k, none⟩) hb2).trans cd
      clear ca cb cd
      have cs := hbl.out.c k (by rw [HSL.out]; exact hkn)
      have fs := hbl.out.f k
      by_cases h1 : dk = -1
      · have HC : Hid (stCond l D S k = false) := hid (by unfold stCond; rw [HDK.out, h1]; rfl)
        subst h1
        go_wp2_with fail
        have HP := hid (hbl.out.put (k := k) (by rw [HSL.out]; exact hkn) false)
        go_roundw
        case rel => exact ⟨m + 1, by omega, by rw [← HM1.out], hid (by rw [HST.out, HC.out]; exact HP.out)⟩
        case measure => simp [RowKit.intOf] <;> omega
      · have d1 : (dk == -1) = false := by simpa using h1
        by_cases h2 : o = 16
        · subst h2
          have HC : Hid (stCond l D S k = decide (0 < leaptN l S k)) := hid (by unfold stCond; rw [HDK.out, HO.out, decide_eq_true h1]; simp)
          have e1 : (dk != -1) = true := by simpa using h1
          have HV2 : Hid (SlV wr wr.heap.size (.slice (some ⟨b1, o1, none⟩) n c) l) := hid ((HV.out.below hbl.out.bel).mono hbl.out.bel.size)
          have HSB : Hid (SlB wr wr.heap.size (.slice (some ⟨w.heap.size, 0, none⟩) n n) S) := hid (by have := hbl.out.sl; rw [HSL.out] at this; exact this)
          go_wp2_with fail
          refine (leapt_any _ _ l S k wr HV2.out HSB.out (by rw [HN.out]; exact hkn) (by rw [HN.out]; exact hl) (by rw [HSL.out, HN.out]) (HAR.out k hkn (Or.inr HO.out)).1 (HAR.out k hkn (Or.inr HO.out)).2).mono ?_
          rintro e w1 ⟨rfl, hb⟩
          have HB := hid hb; clear hb
          have HL2 := hid (hbl.out.on HB.out)
          have cs := HL2.out.c k (by rw [HSL.out]; exact hkn)
          have fs := HL2.out.f k
          obtain ⟨q, hq⟩ : ∃ q, leaptN l S k = q := ⟨_, rfl⟩
          rw [hq] at HC ⊢
          clear hq
          have HP := hid (HL2.out.put (k := k) (by rw [HSL.out]; exact hkn) (decide (0 < q)))
          by_cases hq0 : 0 < q
          · have hqi : (0 : Int) < (q : Int) := by omega
            go_wp2_with fail
            go_roundw
            case rel => exact ⟨m + 1, by omega, by rw [← HM1.out], hid (by rw [HST.out, HC.out]; have := HP.out; rw [decide_eq_true hq0] at this ⊢; exact this)⟩
            case measure => simp [RowKit.intOf] <;> omega
          · have hqi : ¬ (0 : Int) < (q : Int) := by omega
            go_wp2_with fail
            go_roundw
            case rel => exact ⟨m + 1, by omega, by rw [← HM1.out], hid (by rw [HST.out, HC.out]; have := HP.out; rw [decide_eq_false hq0] at this ⊢; exact this)⟩
            case measure => simp [RowKit.intOf] <;> omega
        · have HC : Hid (stCond l D S k = true) := hid (by unfold stCond; rw [HDK.out, HO.out, decide_eq_true h1, decide_eq_true h2]; rfl)
          have d2 : (o == 16) = false := by simpa using h2
          have e1 : (dk != -1) = true := by simpa using h1
          have e2 : (o != 16) = true := by simpa using h2
          go_wp2_with fail
          have HP := hid (hbl.out.put (k := k) (by rw [HSL.out]; exact hkn) true)
          go_roundw
          case rel => exact ⟨m + 1, by omega, by rw [← HM1.out], hid (by rw [HST.out, HC.out]; exact HP.out)⟩
          case measure => simp [RowKit.intOf] <;> omega
    · obtain rfl : m = n := by omega
      go_wp2_with fail
      go_ret
      exact ⟨_, rfl, hbl⟩

end Go.Proofs.YtfohdoahddommaaDoor
