/- Layer 7, cell: the document's Val, Right and Rec; the law's in. -/
import Derived.Test.YtfhlpbjdcdagjaaGreatDoorHat
namespace Go.Proofs.YtfhlpbjdcdagjaaGreatDoor
open Go.RowKit Go.Lib Go.MapKept
open Go.Sort (grow)
set_option linter.unusedVariables false
set_option maxRecDepth 100000

set_option maxHeartbeats 1000000 in
theorem rval_any (a b : Int) (β : Bool) (hβ : Hid (rgtB (a, b) = β)) (w : World) :
    Calls Tryz.prog 24 #[val a b] w fun e w' => e = .returned (.bool β) ∧ Below w.heap.size w w' := by
  have he := eql_val (into a) (into b) a b
  have HE : Hid ((decide (into a = a) && decide (into b = b)) = β) := hid (by rw [← hβ.out]; unfold rgtB; congr 1 <;> exact decide_eq_decide.2 ⟨fun h => h.symm, fun h => h.symm⟩)
  go_enter Tryz.func24, Tryz.ntmps24
  go_wp2_with fail
  go_region_law (first
    | (go_simp; go_at_call 45; ((with_reducible refine (refof_val a b _).mono ?_); rintro e w' ⟨rfl, hb⟩; have HBB := hid hb; obtain ⟨hc, hf⟩ := bcell hb; clear hb)))
  all_goals
    go_wp2
    go_ret
    exact ⟨ret_bool HE.out, (((Below.refl _ w).alloc (Nat.le_refl _) _).drew).trans (HBB.out.mono (by simp))⟩

set_option maxHeartbeats 1000000 in
theorem rrec_any (k x y : Int) (β : Bool) (hβ : Hid ((keyB k && rgtB (x, y)) = β)) (w : World) :
    Calls Tryz.prog 11 #[recV k x y] w fun e w' => e = .returned (.bool β) ∧ Below w.heap.size w w' := by
  obtain ⟨W, hW, HB, HX⟩ := box3 w k x y 41
  have ⟨_, q0, q1, q2⟩ := HX.out
  go_enter Tryz.func11, Tryz.ntmps11
  by_cases h1 : 0 ≤ k
  · by_cases h2 : k < 64
    · have hk : keyB k = true := by unfold keyB; simp [h1, h2]
      obtain ⟨γ, hγ⟩ : ∃ γ, rgtB (x, y) = γ := ⟨_, rfl⟩
      have HE : Hid (γ = β) := hid (by rw [← hβ.out, hk, hγ]; rfl)
      have HG := hid hγ
      clear hγ hk
      go_wp2_with fail
      refine (rval_any x y γ HG W).mono ?_
      rintro e w1 ⟨rfl, hb⟩
      have HB2 := hid (HB.out.trans (hb.mono HB.out.size))
      clear hb q0 q1 q2
      go_wp2_with fail
      go_ret
      exact ⟨ret_bool HE.out, HB2.out⟩
    · have HE : Hid (false = β) := hid (by rw [← hβ.out]; unfold keyB; simp [h2])
      go_wp2_with fail
      go_ret
      exact ⟨ret_bool HE.out, HB.out⟩
  · have HE : Hid (false = β) := hid (by rw [← hβ.out]; unfold keyB; simp [h1])
    go_wp2_with fail
    go_ret
    exact ⟨ret_bool HE.out, HB.out⟩

set_option maxHeartbeats 1000000 in
theorem rright_any (n k a b c d : Int) (β : Bool) (hβ : Hid (setB n k ((a, b), (c, d)) = β)) (w : World) :
    Calls Tryz.prog 8 #[.agg #[.int .i64 n, .int .i64 k, .int .i64 a, .int .i64 b, .int .i64 c, .int .i64 d]] w fun e w' => e = .returned (.bool β) ∧ Below w.heap.size w w' := by
  obtain ⟨W, hW, HB, HX⟩ := box6 w n k a b c d 37
  have ⟨l0, q0, q1, q2, q3, q4, q5⟩ := HX.out
  go_enter Tryz.func8, Tryz.ntmps8
  by_cases h1 : 0 ≤ n
  · by_cases h2 : n < 8
    · by_cases h3 : 0 ≤ k
      · by_cases h4 : k < 64
        · have hnk : (nodeB n && keyB k) = true := by unfold nodeB keyB; simp [h1, h2, h3, h4]
          obtain ⟨γ, hγ⟩ : ∃ γ, rgtB (a, b) = γ := ⟨_, rfl⟩
          obtain ⟨δ, hδ⟩ : ∃ δ, rgtB (c, d) = δ := ⟨_, rfl⟩
          have HE : Hid ((γ && δ) = β) := hid (by rw [← hβ.out]; unfold setB rgt4; rw [hnk]; simp only [hγ, hδ]; rfl)
          have HG := hid hγ; have HD := hid hδ
          clear hγ hδ hnk
          go_wp2_with fail
          refine (rval_any a b γ HG W).mono ?_
          rintro e w1 ⟨rfl, hb⟩
          have HB2 := hid (HB.out.trans (hb.mono HB.out.size))
          have q2 := ((bcell hb).1 _ _ l0).trans q2; have q3 := ((bcell hb).1 _ _ l0).trans q3; have q4 := ((bcell hb).1 _ _ l0).trans q4; have q5 := ((bcell hb).1 _ _ l0).trans q5
          clear hb
          cases γ with
          | false =>
            go_wp2_with fail
            go_ret
            exact ⟨ret_bool HE.out, HB2.out⟩
          | true =>
            go_wp2_with fail
            refine (rval_any c d δ HD w1).mono ?_
            rintro e w2 ⟨rfl, hb⟩
            have HB3 := hid (HB2.out.trans (hb.mono HB2.out.size))
            clear hb q2 q3 q4 q5
            go_wp2_with fail
            go_ret
            exact ⟨ret_bool HE.out, HB3.out⟩
        · have HE : Hid (false = β) := hid (by rw [← hβ.out]; unfold setB keyB; simp [h4])
          go_wp2_with fail
          go_ret
          exact ⟨ret_bool HE.out, HB.out⟩
      · have HE : Hid (false = β) := hid (by rw [← hβ.out]; unfold setB keyB; simp [h3])
        go_wp2_with fail
        go_ret
        exact ⟨ret_bool HE.out, HB.out⟩
    · have HE : Hid (false = β) := hid (by rw [← hβ.out]; unfold setB nodeB; simp [h2])
      go_wp2_with fail
      go_ret
      exact ⟨ret_bool HE.out, HB.out⟩
  · have HE : Hid (false = β) := hid (by rw [← hβ.out]; unfold setB nodeB; simp [h1])
    go_wp2_with fail
    go_ret
    exact ⟨ret_bool HE.out, HB.out⟩

set_option maxHeartbeats 1000000 in
theorem in_any (v : Value) (gs : List Int) (n : Int) (hl : gs.length ≤ 1000000000000) (β : Bool) (hβ : Hid (gs.contains n = β)) (w : World) (hv : SlI w w.heap.size .i64 v gs) :
    Calls Tryz.prog 16 #[v, .int .i64 n] w fun e w' => e = .returned (.bool β) ∧ Below w.heap.size w w' := by
  obtain ⟨A, c, rfl, hc, hA⟩ := hv
  have HA := hid hA; clear hA
  go_enter Tryz.func16, Tryz.ntmps16
  go_wp2_with fail
  go_loopw [9] (fun i wr => ∃ k : Nat, k ≤ gs.length ∧ i = .int .i64 k ∧ Hid ((gs.take k).contains n = false) ∧ Hid (Below w.heap.size w wr)) (fun i _ => gs.length - (RowKit.intOf i).toNat)
  case atStart => exact ⟨0, Nat.zero_le _, rfl, hid (by simp), hid (Below.refl _ _)⟩
  case round =>
    obtain ⟨k, hk, rfl, HT, HB⟩ := hrel
    by_cases hlt : k < gs.length
    · obtain ⟨b, o, rfl, hbB, hcell⟩ := HA.out (by omega)
      have hx := (HB.out.cell (p := ⟨b, o + k, none⟩) hbB).trans (hcell k hlt)
      obtain ⟨x, hxe⟩ : ∃ x, gs.getD k 0 = x := ⟨_, rfl⟩
      rw [hxe] at hx
      have HXE := hid hxe
      have hsn := contains_snoc hlt n
      rw [hxe, HT.out] at hsn
      have HSN := hid hsn
      clear hcell hxe hsn
      by_cases hxn : x = n
      · subst hxn
        have HE : Hid (true = β) := hid (by
          rw [← hβ.out]
          have h1 := HSN.out
          simp only [decide_true, Bool.or_true, List.contains_eq_mem, decide_eq_true_eq] at h1
          exact (by simpa using List.mem_of_mem_take h1 : gs.contains x = true).symm)
        go_wp2_with fail
        go_ret
        exact ⟨ret_bool HE.out, HB.out⟩
      · have hne : (x == n) = false := by simpa using hxn
        have HT2 : Hid ((gs.take (k + 1)).contains n = false) := hid (by rw [HSN.out]; simp; exact fun e => hxn e.symm)
        go_wp2_with fail
        go_roundw
        case rel => exact ⟨k + 1, by omega, by go_num, HT2, HB⟩
        case measure => simp [RowKit.intOf]; omega
    · have HE : Hid (false = β) := hid (by
        have hke : gs.take k = gs := List.take_of_length_le (by omega)
        rw [← hβ.out, ← HT.out, hke])
      go_wp2_with fail
      go_ret
      exact ⟨ret_bool HE.out, HB.out⟩

end Go.Proofs.YtfhlpbjdcdagjaaGreatDoor

namespace Go.Proofs.YtfhlpbjdcdagjaaGreatDoor
open Go.RowKit Go.Lib Go.MapKept
open Go.Sort (grow)
set_option linter.unusedVariables false
set_option maxRecDepth 100000

theorem neq_arr_any (a b c d a' b' c' d' : Int) (w : World) : (binOp .neq 32 (.agg #[.int .i64 a, .int .i64 b, .int .i64 c, .int .i64 d]) (.agg #[.int .i64 a', .int .i64 b', .int .i64 c', .int .i64 d'])).run Tryz.prog w = .ok (.bool (!decide ((((a, b), (c, d)) : C4) = ((a', b'), (c', d'))))) w := by
  rw [run_neq_struct, eqin_arr4 9997 a b c d a' b' c' d' w]
  simp [Result.andThen]

/-- The document's table. -/
structure DTab (w : World) (g : Nat) (D : CTab) : Prop where
  lt : g < w.heap.size
  q : ∀ n k : Nat, n < 8 → k < 64 → w.cell? ⟨g, n * 256 + k * 4, none⟩ = some (.int .i64 (D n k).1.1) ∧ w.cell? ⟨g, n * 256 + k * 4 + 1, none⟩ = some (.int .i64 (D n k).1.2) ∧ w.cell? ⟨g, n * 256 + k * 4 + 2, none⟩ = some (.int .i64 (D n k).2.1) ∧ w.cell? ⟨g, n * 256 + k * 4 + 3, none⟩ = some (.int .i64 (D n k).2.2)
  f : ∀ j, w.frozen? ⟨g, j, none⟩ = false

theorem DTab.keep {w w' : World} {g : Nat} {D : CTab} (h : DTab w g D) (hk : w'.heap[g]? = w.heap[g]?) (hs : w.heap.size ≤ w'.heap.size) : DTab w' g D := by
  have c := fun o => World.cell?_of_block (a := ⟨g, o, none⟩) hk
  refine ⟨Nat.lt_of_lt_of_le h.lt hs, fun n k hn hk2 => ?_, fun j => (World.frozen?_of_block (a := ⟨g, j, none⟩) hk).trans (h.f j)⟩
  obtain ⟨a, b, d, e⟩ := h.q n k hn hk2
  exact ⟨(c _).trans a, (c _).trans b, (c _).trans d, (c _).trans e⟩

theorem DTab.below {w w' : World} {g : Nat} {D : CTab} (h : DTab w g D) (hb : Below w.heap.size w w') : DTab w' g D := h.keep (hb.block g h.lt) hb.size

theorem DTab.under {B : Nat} {w w' : World} {g : Nat} {D : CTab} (h : DTab w g D) (hg : g < B) (hb : Below B w w') : DTab w' g D := h.keep (hb.block g hg) hb.size

theorem DTab.grown {w w' : World} {g r : Nat} {D : CTab} (h : DTab w g D) (hb : w.grownBy w' (some r)) (hr : r ≠ g) : DTab w' g D :=
  h.keep (hb.block g h.lt (fun e => hr (by injection e with e; exact e.symm))) hb.size

theorem c4_of (c : C4) : ∃ x y z u, c = ((x, y), (z, u)) := ⟨c.1.1, c.1.2, c.2.1, c.2.2, rfl⟩

theorem plc_at {n k : Nat} (h : k < 64) : plc (n * 64 + k) = ((n : Int), (k : Int)) := by
  unfold plc
  have h1 : (n * 64 + k) / 64 = n := by omega
  have h2 : (n * 64 + k) % 64 = k := by omega
  rw [h1, h2]

theorem own_lit0 (w : World) (e : TypeId) (size : Nat) : (w.alloc (.cells #[] e)).ownsRow w.heap.size e size (.slice (some ⟨w.heap.size, 0, none⟩) 0 0) 0 [] :=
  ⟨by simp, .inr ⟨w.heap.size, 0, #[], rfl, Nat.le_refl _, (Go.MapKept.heap_alloc w _).1, Nat.le_refl _, Nat.zero_le _, by simp, by simp⟩⟩

theorem entsTo_zero (D : CTab) (S : Int × Int → Bool) : entsTo D S 0 = [] := by simp [entsTo]

theorem entAt_z {D : CTab} {n k : Nat} (hk : k < 64) (h : D n k = z4) : entsTo D (fun _ => true) (n * 64 + k + 1) = entsTo D (fun _ => true) (n * 64 + k) := by
  rw [entsTo_succ]
  unfold entAt
  rw [plc_at hk, if_neg (fun q => q.1 h), List.append_nil]

theorem entAt_nz {D : CTab} {n k : Nat} (hk : k < 64) {x y z u : Int} (h : D n k = ((x, y), (z, u))) (hz : ¬ (((x, y), (z, u)) : C4) = z4) : entsTo D (fun _ => true) (n * 64 + k + 1) = entsTo D (fun _ => true) (n * 64 + k) ++ [(((n : Int), (k : Int)), ((x, y), (z, u)))] := by
  rw [entsTo_succ]
  unfold entAt
  rw [plc_at hk, if_pos ⟨by show D n k ≠ z4; rw [h]; exact hz, rfl⟩]
  show _ ++ [(((n : Int), (k : Int)), D n k)] = _
  rw [h]

set_option maxHeartbeats 2000000 in
theorem rall_any (g : Nat) (D : CTab) (w : World) (h : DTab w g D) : Calls Tryz.prog 17 #[.pointer (some ⟨g, 0, none⟩)] w (EntPost w (ents D fun _ => true)) := by
  have HT := hid h
  have hg := h.lt
  clear h
  obtain ⟨i0, hi, hz0, hz1, hz2⟩ := info_parts entInfo
  go_enter Tryz.func17, Tryz.ntmps17
  go_wp2_with fail
  go_loopw [3, 4] (fun v i wr => ∃ (n : Nat) (A : Option Addr) (c : Nat), n ≤ 8 ∧ i = .int .i64 n ∧ v = .slice A (entsTo D (fun _ => true) (n * 64)).length c ∧ Hid (wr.ownsRow w.heap.size 37 6 v (entsTo D (fun _ => true) (n * 64)).length (entCells (entsTo D (fun _ => true) (n * 64)))) ∧ Hid (Below w.heap.size w wr)) (fun _ i _ => 8 - (RowKit.intOf i).toNat)
  case atStart => exact ⟨0, _, _, Nat.zero_le _, rfl, rfl, hid (own_lit0 w _ _), hid ((Below.refl _ w).alloc (Nat.le_refl _) _)⟩
  case round =>
    obtain ⟨n, A, c, hn, rfl, rfl, HO, HB⟩ := hrel
    by_cases h8 : n < 8
    · go_wp2_with fail
      go_loopw [3, 5] (fun v i wr => ∃ (k : Nat) (A : Option Addr) (c : Nat), k ≤ 64 ∧ i = .int .i64 k ∧ v = .slice A (entsTo D (fun _ => true) (n * 64 + k)).length c ∧ Hid (wr.ownsRow w.heap.size 37 6 v (entsTo D (fun _ => true) (n * 64 + k)).length (entCells (entsTo D (fun _ => true) (n * 64 + k)))) ∧ Hid (Below w.heap.size w wr)) (fun _ i _ => 64 - (RowKit.intOf i).toNat)
      case atStart => exact ⟨0, _, _, Nat.zero_le _, rfl, rfl, HO, HB⟩
      case round =>
        obtain ⟨k, A1, c1, hk, rfl, rfl, HO1, HB1⟩ := hrel
        by_cases h64 : k < 64
        · obtain ⟨x, y, z, u, hD⟩ := c4_of (c := D n k)
          obtain ⟨z0, z1, z2, z3⟩ := (HT.out.under hg HB1.out).q n k h8 h64
          rw [hD] at z0 z1 z2 z3
          simp only at z0 z1 z2 z3
          by_cases hzz : (((x, y), (z, u)) : C4) = z4
          · have hq := fun w : World => (neq_arr_any x y z u 0 0 0 0 w).trans (by rw [show decide ((((x, y), (z, u)) : C4) = ((0, 0), (0, 0))) = true from decide_eq_true hzz])
            have HS := hid (entAt_z h64 (hD.trans hzz))
            clear hD hzz
            go_wp2_with fail
            go_roundw
            case rel => exact ⟨k + 1, A1, c1, by omega, by go_num, by rw [← Nat.add_assoc, HS.out], by rw [← Nat.add_assoc, HS.out]; exact HO1, HB1⟩
            case measure => simp [RowKit.intOf]; omega
          · have hq := fun w : World => (neq_arr_any x y z u 0 0 0 0 w).trans (by rw [show decide ((((x, y), (z, u)) : C4) = ((0, 0), (0, 0))) = false from decide_eq_false hzz])
            have HS := hid (entAt_nz h64 hD hzz)
            clear hD hzz
            obtain ⟨L, hL⟩ : ∃ L, entsTo D (fun _ => true) (n * 64 + k) = L := ⟨_, rfl⟩
            have hsz : L.length ≤ 512 := by rw [← hL]; have := entsTo_len D (fun _ => true) (n * 64 + k); omega
            rw [hL] at HO1 HS ⊢
            have HNC := hid (new_ent wr n k x y z u 37)
            have HO5 := hid (HO1.out.alloc (.cells #[.int .i64 n, .int .i64 k, .int .i64 x, .int .i64 y, .int .i64 z, .int .i64 u] 37))
            have HB5 := hid (HB1.out.trans (((Below.refl wr.heap.size wr).alloc (Nat.le_refl _) (.cells #[.int .i64 n, .int .i64 k, .int .i64 x, .int .i64 y, .int .i64 z, .int .i64 u] 37)).mono HB1.out.size))
            have hbs : w.heap.size ≤ (wr.alloc (.cells #[.int .i64 n, .int .i64 k, .int .i64 x, .int .i64 y, .int .i64 z, .int .i64 u] 37)).heap.size := HB5.out.size
            clear hL
            go_wp2_with (at_builtin; refine wpList_append_own _ rfl _ _ 22 rfl w.heap.size 37 i0 (.agg #[.int .i64 0, .int .i64 0, .int .i64 0, .int .i64 0, .int .i64 0, .int .i64 0]) 6 48 Tryz.underlying22 hi hz0 hz1 hz2 rfl (by decide) (.slice A1 L.length c1) L.length (entCells L) rfl HO5.out ⟨wr.heap.size, 0, none⟩ 1 1 (encE (((n : Int), (k : Int)), ((x, y), (z, u)))) rfl rfl HNC.out (encE_one _) (by unfold maxLen; omega) (by omega) hbs ?_; intro v' w6 hown6 hg6 _; obtain ⟨A6, c6, rfl⟩ := own_form hown6; have HO6 := hid hown6; have HG6 := hid hg6; clear hown6 hg6)
            have hlen : (L ++ [(((n : Int), (k : Int)), ((x, y), (z, u)))]).length = L.length + 1 := by simp
            have HB6 := hid (HB5.out.grown HG6.out hbs (fun q hq => (HO5.out.lt _ hq).1))
            go_roundw
            case rel => exact ⟨k + 1, A6, c6, by omega, by go_num, by rw [← Nat.add_assoc, HS.out, hlen], by rw [← Nat.add_assoc, HS.out, hlen, entCells_snoc]; exact HO6, HB6⟩
            case measure => simp [RowKit.intOf]; omega
        · obtain rfl : k = 64 := by omega
          go_wp2_with fail
          go_roundw
          case rel => exact ⟨n + 1, A1, c1, by omega, by go_num, by rw [show (n + 1) * 64 = n * 64 + 64 by omega], by rw [show (n + 1) * 64 = n * 64 + 64 by omega]; exact HO1, HB1⟩
          case measure => simp [RowKit.intOf]; omega
    · obtain rfl : n = 8 := by omega
      go_wp2_with fail
      go_ret
      exact ⟨A, c, rfl, HO.out, HB.out⟩

end Go.Proofs.YtfhlpbjdcdagjaaGreatDoor
