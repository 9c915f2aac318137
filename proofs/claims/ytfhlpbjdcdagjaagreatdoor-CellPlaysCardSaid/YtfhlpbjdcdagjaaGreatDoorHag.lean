/- Layer 6, vm: EMIT; do. -/
import Derived.Test.YtfhlpbjdcdagjaaGreatDoorHaf
import Derived.Test.YtfhlpbjdcdagjaaGreatDoorHaa
import Derived.ScopeJumps
import Derived.WalkMore
import Derived.Orders
import Derived.RegionTactic
namespace Go.Proofs.YtfhlpbjdcdagjaaGreatDoor
open Go.RowKit Go.Lib
set_option linter.unusedVariables false
set_option maxRecDepth 100000

section
variable {W w w' : World} {B b : Nat} {vp vs vo : Value} {st out : List (Int × Int)} {c0 c1 : Int × Int} {n : Nat} {fx : List Nat}

/-- take, the rows as they lie. -/
theorem take_rows {x y : Int} (hV : Hid (MchV W B b (mcells vp vs vo ⟨st, out, c0, c1, n⟩) vs vo st out)) (hF : Hid (Frn W b vs vo fx)) (h0 : 0 < st.length) (h8 : st.length ≤ 800) (hx : Hid (topV st 1 = (x, y))) (w : World) (hb : Hid (Below W.heap.size W w)) :
    Calls Tryz.prog 89 #[.pointer (some ⟨b, 0, none⟩)] w fun e w' => e = .returned (val x y) ∧ ∃ vs4, Hid (MchV w' B b (mcells vp vs4 vo ⟨cutV st 1, out, c0, c1, n⟩) vs4 vo (cutV st 1) out) ∧ Hid (Frn w' b vs4 vo fx) ∧ Hid (MP B b vp ⟨cutV st 1, out, c0, c1, n⟩ fx W w') := by
  have hVw := hV.out.below hb.out
  have hMw := Mch2.here (hid (⟨vs, vo, hV.out, hF.out⟩ : Mch2 W B b vp ⟨st, out, c0, c1, n⟩ fx)) hb
  refine (take_v (s := ⟨st, out, c0, c1, n⟩) hVw h0 (by simp only; omega)).mono ?_
  rintro e w' ⟨rfl, ⟨vs', hb', hm'⟩, hg⟩
  have hs := hb.out.size
  have hF' : Frn w' b vs' vo fx := fun r hr => by
    obtain ⟨p, q, d, e⟩ := hF.out r hr
    exact ⟨Nat.lt_of_lt_of_le p (Nat.le_trans hs hg.size), q, by rw [hb']; exact d, e⟩
  refine ⟨by simp only; rw [hx.out], vs', hid hm', hid hF', hid (hMw.trans ⟨⟨vs', vo, hm', hF'⟩, fun r hr => ?_, (Below.refl B w).grown hg (Nat.le_trans hVw.le (Nat.le_of_lt hVw.lt)) (fun k hk => by injection hk with hk; rw [← hk]; exact hVw.le)⟩)⟩
  obtain ⟨p, q, d, e⟩ := hF.out r hr
  exact hg.block r (Nat.lt_of_lt_of_le p hs) (by intro z; injection z with z; exact q z)

/-- What EMIT makes of the machine. -/
theorem emit_mp {v' : Value} {x y : Int} (hV : MchV w B b (mcells vp vs vo ⟨st, out, c0, c1, n⟩) vs vo st out) (hf : Frn w b vs vo fx) (ho : w'.ownsRow (b + 1) 31 2 v' (out.length + 1) (insCells out ++ [.int .i64 x, .int .i64 y])) (hg : w.grownBy w' vo.ownBlock)
    (hv : v'.ownBlock = vo.ownBlock ∨ ∀ k, v'.ownBlock = some k → w.heap.size ≤ k) : MP B b vp ⟨st, out ++ [(x, y)], c0, c1, n⟩ fx w (w'.setCell ⟨b, 0, none⟩ v') ∧ w'.cell? ⟨b, 0, none⟩ = some vo ∧ w'.frozen? ⟨b, 0, none⟩ = false := by
  obtain ⟨hE, hB⟩ := hV.emit (q := [(x, y)]) ho hg hv
  refine ⟨⟨⟨vs, v', hE.set 0 (by omega) v', fun r hr => ?_⟩, fun r hr => ?_, hB.setCell hV.le _⟩, hE.cells 0 (by omega), hE.fr 0⟩
  · obtain ⟨p, q, d, e⟩ := hf r hr
    refine ⟨by rw [World.size_setCell]; exact Nat.lt_of_lt_of_le p hB.size, q, d, ?_⟩
    rcases hv with hv | hv
    · rw [hv]; exact e
    · intro z; have := hv r z; omega
  · obtain ⟨p, q, d, e⟩ := hf r hr
    rw [Below.heap_setCell _ _ _ _ q]
    exact hg.block r p (fun z => e z.symm)

set_option maxHeartbeats 1000000 in
theorem do_emit (h : Mch2 w B b vp ⟨st, out, c0, c1, n⟩ fx) (h0 : 0 < st.length) (h8 : st.length ≤ 800) (ho8 : out.length ≤ 1000000000) (a v1 v2 : Int) : DoIs w B b vp fx ⟨cutV st 1, out ++ [topV st 1], c0, c1, n⟩ 14 a v1 v2 := by
  unfold DoIs
  obtain ⟨x, y, hxy⟩ := pair_of (p := topV st 1)
  have HX := hid hxy
  obtain ⟨W, hW, HM, _, HE⟩ := box_do h 14 a v1 v2 88 31
  have hb0 : Hid (Below W.heap.size W W.drew) := hid (Below.refl _ _).drew
  obtain ⟨vs, vo, hV, hF⟩ := HM.out
  obtain ⟨A, co, rfl⟩ := own_form hV.ono
  obtain ⟨m, hm⟩ : ∃ m, out.length = m := ⟨_, rfl⟩
  have HN := hid hm
  rw [hm] at hV hF ho8
  have m0 : W.cell? ⟨b, 0, none⟩ = some (.slice A m co) := hV.cells 0 (by omega)
  have HV := hid hV
  have HF := hid hF
  obtain ⟨i0, hi, hz0, hz1, hz2⟩ := info_parts valInfo
  clear hxy hm hV hF
  go_enter Tryz.func90, Tryz.ntmps90
  go_wp2_with fail
  clear hW
  go_region_law (first
    | (go_simp; go_at_call 89; ((refine (take_rows (W := W) HV HF h0 h8 HX _ ?_).mono ?_); assumption; rintro e w4 ⟨rfl, vs4, HV4, HF4, HM4⟩; have m0 := (show w4.cell? ⟨b, 0, none⟩ = some (.slice A m co) from HV4.out.cells 0 (by omega)); have hl4 := HV4.out.lt; have HC : Hid (∀ j u, [Value.int .i64 x, Value.int .i64 y][j]? = some u → (w4.alloc (.cells #[.int .i64 x, .int .i64 y] 31)).cell? ((⟨w4.heap.size, 0, none⟩ : Addr).add j) = some u) := hid (fun j u hj => new_cells _ #[.int .i64 x, .int .i64 y] _ j u (by simpa using hj)); have HV5 := hid (HV4.out.below ((Below.refl _ w4).alloc (Nat.le_refl _) (.cells #[.int .i64 x, .int .i64 y] 31)))))
    | (refine step_append_blk (w := w4.alloc (.cells #[.int .i64 x, .int .i64 y] 31)) rfl (.tmp 98) (.tmp 101) 77 rfl (b + 1) 31 i0 (.agg #[.int .i64 0, .int .i64 0]) 2 16 Tryz.underlying77 hi hz0 hz1 hz2 rfl (by decide) (.slice A m co) m (insCells out) (by simp [Act.eval]) (by have := HV5.out.ono; rw [HN.out] at this; exact this) ⟨w4.heap.size, 0, none⟩ 1 1 [.int .i64 x, .int .i64 y] (by simp [Act.eval]) rfl HC.out (by intro u hu; simp at hu; rcases hu with rfl | rfl <;> rfl) (by unfold maxLen; omega) (by omega) (Nat.lt_of_lt_of_le hl4 (by rw [World.size_alloc]; omega)) ?_; intro v' w5 hown5 hg5 hb5; obtain ⟨A5, c5, rfl⟩ := own_form hown5; obtain ⟨HM5, n0, f0⟩ := emit_mp (fx := (w.heap.size + 1) :: w.heap.size :: fx) HV5.out (fun r hr => ⟨by have := (HF4.out r hr).1; rw [World.size_alloc]; omega, (HF4.out r hr).2⟩) (by rw [HN.out]; exact hown5) hg5 hb5; have HM5 := hid HM5; clear hown5 hg5 hb5))
  all_goals
    go_wp2_with fail
    go_end0
    refine ⟨rfl, HE.out _ _ ?_⟩
    rw [HX.out]
    exact (HM4.out.trans (HM4.out.m.alloc _)).trans HM5.out

/-- do, whatever the operation is. -/
theorem do_any (o a v1 v2 : Int) (s : VmS) (h : Mch2 w B b vp s fx) (hi : rightI (o, a) = true) (hn : o ≠ 0 ∧ o ≠ 15 ∧ o ≠ 16) (htk : tkI o ≤ s.st.length) (h8 : s.st.length ≤ 800) (ho8 : s.out.length ≤ 1000000000) (hr : VmR s) : DoIs w B b vp fx (doS o a (v1, v2) s) o a v1 v2 := by
  obtain ⟨b0, b1, b2, b3⟩ := rightI_bounds hi
  simp only at b0 b1 b2 b3
  obtain ⟨st, out, c0, c1, n⟩ := s
  have h1 : 1 ≤ tkI o → 0 < st.length := fun q => by simp only at htk; omega
  have h2 : 2 ≤ tkI o → 2 ≤ st.length := fun q => by simp only at htk; omega
  have r1 := rg_top hr.st 1
  have r2 := rg_top hr.st 2
  simp only at r1 r2 h8 ho8
  have hc : o = 1 ∨ o = 2 ∨ o = 3 ∨ o = 4 ∨ o = 5 ∨ o = 9 ∨ o = 10 ∨ o = 13 ∨ o = 14 ∨ o = 11 ∨ o = 12 ∨ (o = 6 ∨ o = 7 ∨ o = 8 ∨ o = 17) := by omega
  have ha : o = 4 ∨ o = 5 → a = 0 ∨ a = 1 := by
    intro q
    unfold rightI at hi
    simp only [Bool.and_eq_true, decide_eq_true_eq] at hi
    have l0 : loI o = 0 := by unfold loI; rw [if_neg (by omega), if_neg (by omega)]
    have l1 : hiI o = 1 := by unfold hiI; rw [if_neg (by omega), if_pos (by omega)]
    omega
  rcases hc with rfl | rfl | rfl | rfl | rfl | rfl | rfl | rfl | rfl | rfl | rfl | ho
  · exact do_push h h8 a v1 v2 (hid ⟨b2, b3⟩)
  · exact do_pushi h h8 a v1 v2 (hid ⟨b2, b3⟩)
  · exact do_in h h8 a v1 v2
  · rcases ha (.inl rfl) with rfl | rfl
    · exact do_load0 h h8 v1 v2
    · exact do_load1 h h8 v1 v2
  · rcases ha (.inr rfl) with rfl | rfl
    · exact do_store0 h (h1 (by decide)) h8 v1 v2
    · exact do_store1 h (h1 (by decide)) h8 v1 v2
  · exact do_conj h (h1 (by decide)) h8 a v1 v2 r1
  · exact do_turn h (h1 (by decide)) h8 a v1 v2 r1
  · exact do_drop h (h1 (by decide)) h8 a v1 v2
  · exact do_emit h (h1 (by decide)) h8 ho8 a v1 v2
  · exact do_dup h (h1 (by decide)) h8 a v1 v2
  · exact do_swap h (h2 (by decide)) h8 a v1 v2
  · have e : doS o a (v1, v2) ⟨st, out, c0, c1, n⟩ = ⟨cutV st 2 ++ [twoV o (topV st 2) (topV st 1)], out, c0, c1, n⟩ := by
      rcases ho with rfl | rfl | rfl | rfl <;> rfl
    rw [e]
    exact do_two o ho h (h2 (by rcases ho with rfl | rfl | rfl | rfl <;> decide)) h8 a v1 v2 r1 r2

end

end Go.Proofs.YtfhlpbjdcdagjaaGreatDoor

namespace Go.Proofs.YtfhlpbjdcdagjaaGreatDoor
open Go.RowKit
set_option linter.unusedVariables false

/-- As Q; by a goto to l1: J1; by a goto to l0: J0; by any other: no way out. -/
def exitTwo (l1 : Nat) (J1 : Act → World → Prop) (l0 : Nat) (J0 : Act → World → Prop) (Q : Exit → Act → World → Prop) : Exit → Act → World → Prop
  | .goto l, a, w => (l = l1 ∧ J1 a w) ∨ (l = l0 ∧ J0 a w)
  | e, a, w => Q e a w

theorem wp_scope_two {P : Program} {a : Act} {w : World} {Q : Exit → Act → World → Prop} {c r1 r0 : Code} (l1 l0 : Nat) (J1 J0 : Act → World → Prop) (μ : Act → World → Nat)
    (h1 : findLabel c l1 = some (Code.skip.seq r1)) (h0 : findLabel c l0 = some r0)
    (first : (∀ a w, J1 a w → r1.wp P (exitTwo l1 J1 l0 J0 Q) a w) → c.wp P (exitTwo l1 J1 l0 J0 Q) a w)
    (pass : ∀ a w, J1 a w → r1.wp P (exitTwo l1 (fun a' w' => J1 a' w' ∧ μ a' w' < μ a w) l0 J0 Q) a w)
    (last : ∀ a w, J0 a w → r0.wp P (Exit.noGoto Q) a w) : (Code.scope c).wp P Q a w := by
  intro b k cs
  have hg1 : gotoIn l1 (.inScope c :: k) = some (.code (Code.skip.seq r1) :: .inScope c :: k) := by simp [gotoIn, h1]
  have hg0 : gotoIn l0 (.inScope c :: k) = some (.code r0 :: .inScope c :: k) := by simp [gotoIn, h0]
  have fin : ∀ a w, J0 a w → ∃ e a' w', Q e a' w' ∧ Arrives P (lone (b.at a (.code r0 :: .inScope c :: k)) cs w) b k cs e a' w' := by
    intro a w hJ
    obtain ⟨e, a₁, w₁, hq, harr⟩ := last a w hJ b (.inScope c :: k) cs
    cases e with
    | normal => exact ⟨.normal, a₁, w₁, hq, Steps.trans harr (.one step_inScope)⟩
    | exit id => exact ⟨.exit id, a₁, w₁, hq, fun k' hk => harr k' (by simp [exitTo, hk])⟩
    | goto l => exact hq.elim
    | ret => exact ⟨_, a₁, w₁, hq, harr⟩
    | panic ch => exact ⟨_, a₁, w₁, hq, harr⟩
    | outgrown => exact ⟨_, a₁, w₁, hq, harr⟩
  have step : ∀ a w, J1 a w → (Code.skip.seq r1).wp P (exitTwo l1 (fun a' w' => J1 a' w' ∧ μ a' w' < μ a w) l0 J0 Q) a w := fun a w hJ => wp_seq (wp_skip (pass a w hJ))
  have key : ∀ n a w, μ a w = n → J1 a w → ∃ e a' w', Q e a' w' ∧ Arrives P (lone (b.at a (.code (Code.skip.seq r1) :: .inScope c :: k)) cs w) b k cs e a' w' := by
    intro n
    induction n using Nat.strongRecOn with
    | _ n ih =>
      intro a w hn hJ
      obtain ⟨e, a₁, w₁, hq, harr⟩ := step a w hJ b (.inScope c :: k) cs
      cases e with
      | normal => exact ⟨.normal, a₁, w₁, hq, Steps.trans harr (.one step_inScope)⟩
      | exit id => exact ⟨.exit id, a₁, w₁, hq, fun k' hk => harr k' (by simp [exitTo, hk])⟩
      | goto l' =>
        rcases hq with ⟨rfl, hJ', hlt⟩ | ⟨rfl, hJ'⟩
        · obtain ⟨e₂, a₂, w₂, hq₂, harr₂⟩ := ih _ (by omega) a₁ w₁ rfl hJ'
          exact ⟨e₂, a₂, w₂, hq₂, .of_steps (harr _ hg1) harr₂⟩
        · obtain ⟨e₂, a₂, w₂, hq₂, harr₂⟩ := fin a₁ w₁ hJ'
          exact ⟨e₂, a₂, w₂, hq₂, .of_steps (harr _ hg0) harr₂⟩
      | ret => exact ⟨_, a₁, w₁, hq, harr⟩
      | panic ch => exact ⟨_, a₁, w₁, hq, harr⟩
      | outgrown => exact ⟨_, a₁, w₁, hq, harr⟩
  have first := first (fun a w hJ => wp_mono (pass a w hJ) fun e a' w' h => by
    cases e with
    | goto l =>
      rcases h with ⟨h, h', _⟩ | h
      · exact .inl ⟨h, h'⟩
      · exact .inr h
    | _ => exact h)
  obtain ⟨e, a₁, w₁, hq, harr⟩ := first b (.inScope c :: k) cs
  cases e with
  | normal => exact ⟨.normal, a₁, w₁, hq, .head step_scope (Steps.trans harr (.one step_inScope))⟩
  | exit id => exact ⟨.exit id, a₁, w₁, hq, fun k' hk => .head step_scope (harr k' (by simp [exitTo, hk]))⟩
  | goto l' =>
    rcases hq with ⟨rfl, hJ'⟩ | ⟨rfl, hJ'⟩
    · obtain ⟨e₂, a₂, w₂, hq₂, harr₂⟩ := key _ a₁ w₁ rfl hJ'
      exact ⟨e₂, a₂, w₂, hq₂, .of_steps (.head step_scope (harr _ hg1)) harr₂⟩
    · obtain ⟨e₂, a₂, w₂, hq₂, harr₂⟩ := fin a₁ w₁ hJ'
      exact ⟨e₂, a₂, w₂, hq₂, .of_steps (.head step_scope (harr _ hg0)) harr₂⟩
  | ret => exact ⟨_, a₁, w₁, hq, .of_steps (.one step_scope) harr⟩
  | panic ch => exact ⟨_, a₁, w₁, hq, .of_steps (.one step_scope) harr⟩
  | outgrown => exact ⟨_, a₁, w₁, hq, .of_steps (.one step_scope) harr⟩

end Go.Proofs.YtfhlpbjdcdagjaaGreatDoor

namespace Go.Proofs.YtfhlpbjdcdagjaaGreatDoor
open Go.RowKit
set_option linter.unusedVariables false
set_option maxRecDepth 100000

section
variable {P : Program} {ops : Array Oper} {Q : Exit → Act → World → Prop}

/-- Edges lead back; slots are written once; what is looked at is written ahead, or is of the base. -/
def regOk (ops : Array Oper) (bs : List Nat) (n : Nat) : Bool :=
  (List.range ops.size).all fun i => match ops[i]? with
    | none => true
    | some o =>
      (o.after.all fun e => !Region.binds .any e || decide (e.on < i)) &&
      (match o.dst with
        | none => true
        | some d => decide (d < n) && (List.range i).all fun j => match ops[j]? with | some oj => oj.dst != some d | none => true) &&
      (o.looksAt ops).all fun k =>
        (bs.contains k && (List.range ops.size).all fun j => match ops[j]? with | some oj => oj.dst != some k | none => true) ||
        (List.range ops.size).any fun j => (match ops[j]? with | some oj => oj.dst == some k | none => false) && o.after.any fun e => Region.binds .any e && e.on == j

theorem regOk_at {bs : List Nat} {n : Nat} (h : regOk ops bs n = true) {i : Nat} {o : Oper} (ho : ops[i]? = some o) :
    (∀ e ∈ o.after, Region.binds .any e = true → e.on < i) ∧
    (∀ d, o.dst = some d → d < n ∧ ∀ (j : Nat) (oj : Oper), j < i → ops[j]? = some oj → oj.dst ≠ some d) ∧
    (∀ k ∈ o.looksAt ops, (k ∈ bs ∧ ∀ (j : Nat) (oj : Oper), ops[j]? = some oj → oj.dst ≠ some k) ∨ ∃ (j : Nat) (oj : Oper), ops[j]? = some oj ∧ oj.dst = some k ∧ ∃ e ∈ o.after, Region.binds .any e = true ∧ e.on = j) := by
  have hi : i < ops.size := (Array.getElem?_eq_some_iff.1 ho).1
  have h1 := List.all_eq_true.1 h i (List.mem_range.2 hi)
  simp only [ho, Bool.and_eq_true] at h1
  obtain ⟨⟨ha, hd⟩, hl⟩ := h1
  refine ⟨fun e he hb => ?_, fun d hdd => ?_, fun k hk => ?_⟩
  · have := Array.all_eq_true'.1 ha e he
    rw [hb] at this
    simpa using this
  · rw [hdd] at hd
    simp only [Bool.and_eq_true, decide_eq_true_eq] at hd
    refine ⟨hd.1, fun j oj hj hoj => ?_⟩
    have := List.all_eq_true.1 hd.2 j (List.mem_range.2 hj)
    rw [hoj] at this
    simpa using this
  · have := List.all_eq_true.1 hl k hk
    rw [Bool.or_eq_true] at this
    rcases this with h2 | h2
    · rw [Bool.and_eq_true] at h2
      refine .inl ⟨by simpa using h2.1, fun j oj hoj => ?_⟩
      have := List.all_eq_true.1 h2.2 j (List.mem_range.2 (Array.getElem?_eq_some_iff.1 hoj).1)
      rw [hoj] at this
      simpa using this
    · obtain ⟨j, hj, h3⟩ := List.any_eq_true.1 h2
      rw [Bool.and_eq_true] at h3
      obtain ⟨h4, h5⟩ := h3
      cases hoj : ops[j]? with
      | none => rw [hoj] at h4; cases h4
      | some oj =>
        rw [hoj] at h4
        obtain ⟨e, he, h6⟩ := Array.any_eq_true'.1 h5
        rw [Bool.and_eq_true] at h6
        exact .inr ⟨j, oj, hoj, by simpa using h4, e, he, h6.1, by simpa using h6.2⟩

theorem ready_of {listed : Array Bool} {i : Nat} (h : i ∈ Region.ready .any ops listed) :
    ∃ o, ops[i]? = some o ∧ listed.getD i true = false ∧ ∀ e ∈ o.after, Region.binds .any e = true → listed.getD e.on false = true := by
  simp only [Region.ready, List.mem_filter, List.mem_range, Bool.and_eq_true, Bool.not_eq_true'] at h
  obtain ⟨hi, hl, ha⟩ := h
  cases ho : ops[i]? with
  | none => rw [ho] at ha; simp at ha
  | some o =>
    rw [ho] at ha
    simp only [Option.map_some, Option.getD_some] at ha
    refine ⟨o, rfl, hl, fun e he hb => ?_⟩
    have := Array.all_eq_true'.1 ha e he
    rw [hb] at this
    simpa using this

theorem all_listed {bs : List Nat} {n : Nat} (hok : regOk ops bs n = true) {listed : Array Bool} (hs : listed.size = ops.size) (hr : Region.ready .any ops listed = []) :
    ∀ i, i < ops.size → listed.getD i false = true := by
  intro i
  induction i using Nat.strongRecOn with
  | ind i ih =>
    intro hi
    obtain ⟨o, ho⟩ : ∃ o, ops[i]? = some o := ⟨_, Array.getElem?_eq_getElem hi⟩
    have hback := (regOk_at hok ho).1
    cases hl : listed.getD i true with
    | true =>
      rw [Array.getD_eq_getD_getElem?] at hl ⊢
      rw [Array.getElem?_eq_getElem (by omega)] at hl ⊢
      exact hl
    | false =>
      exfalso
      have : i ∈ Region.ready .any ops listed := by
        simp only [Region.ready, List.mem_filter, List.mem_range, Bool.and_eq_true, Bool.not_eq_true']
        refine ⟨hi, hl, ?_⟩
        rw [ho]
        simp only [Option.map_some, Option.getD_some]
        rw [Array.all_eq_true']
        intro e he
        cases hb : Region.binds .any e with
        | false => simp
        | true =>
          have h1 := hback e he hb
          simp [ih e.on h1 (by omega)]
      rw [hr] at this
      cases this

theorem wpAny_inv {bs : List Nat} {n : Nat} (hok : regOk ops bs n = true) (Inv : Array Bool → Act → World → Prop) (hsz : ∀ listed a w, Inv listed a w → listed.size = ops.size)
    (step : ∀ listed a w i, Inv listed a w → i ∈ Region.ready .any ops listed → wpOp P ops Q i (fun a' w' => Inv (listed.setIfInBounds i true) a' w') a w)
    (done : ∀ listed a w, Inv listed a w → (∀ i, i < ops.size → listed.getD i false = true) → Q .normal a w) :
    ∀ (fuel : Nat) (listed : Array Bool) (a : Act) (w : World), listed.toList.count false ≤ fuel → Inv listed a w → wpAny P .any ops Q fuel listed a w := by
  intro fuel
  induction fuel with
  | zero =>
    intro listed a w hc hI
    have hr : Region.ready .any ops listed = [] := by
      apply List.eq_nil_iff_forall_not_mem.2
      intro i hi
      obtain ⟨o, ho, hl, _⟩ := ready_of hi
      have hlt : i < listed.size := by rw [hsz _ _ _ hI]; exact (Array.getElem?_eq_some_iff.1 ho).1
      rw [Array.getD_eq_getD_getElem?, Array.getElem?_eq_getElem hlt] at hl
      have : false ∈ listed.toList := by
        have h1 : listed[i] = false := by simpa using hl
        rw [← h1]
        exact Array.getElem_mem_toList hlt
      have := List.count_pos_iff.2 this
      omega
    exact ⟨hr, done _ _ _ hI (all_listed hok (hsz _ _ _ hI) hr)⟩
  | succ fuel ih =>
    intro listed a w hc hI
    refine ⟨fun hr => done _ _ _ hI (all_listed hok (hsz _ _ _ hI) hr), fun i hi => ?_⟩
    refine wpOp_mono (fun a' w' hI' => ih _ _ _ ?_ hI') (step _ _ _ i hI hi)
    obtain ⟨o, ho, hl, _⟩ := ready_of hi
    have hlt : i < listed.size := by rw [hsz _ _ _ hI]; exact (Array.getElem?_eq_some_iff.1 ho).1
    rw [Array.getD_eq_getD_getElem?, Array.getElem?_eq_getElem hlt] at hl
    have h1 : listed[i] = false := by simpa using hl
    have h2 : false ∈ listed.toList := by rw [← h1]; exact Array.getElem_mem_toList hlt
    have h3 := List.count_pos_iff.2 h2
    rw [Array.toList_setIfInBounds, List.count_set (by simpa using hlt)]
    have h4 : (listed.toList[i]'(by simpa using hlt) == false) = true := by simp [h1]
    rw [if_pos h4, if_neg (by decide)]
    omega

/-- What the slots hold, told slot by slot; G is told of the world. -/
structure RInv (ops : Array Oper) (T : Nat → Value → World → Prop) (G : World → Prop) (bs : List Nat) (a0 : Act) (listed : Array Bool) (a : Act) (w : World) : Prop where
  size : listed.size = ops.size
  good : G w
  defers : a.defers = a0.defers
  tsize : a.tmps.size = a0.tmps.size
  keep : ∀ k ∈ bs, (∀ (j : Nat) (o : Oper), ops[j]? = some o → o.dst ≠ some k) → T k (a.tmps.getD k undef) w
  val : ∀ (j : Nat) (o : Oper) (k : Nat), ops[j]? = some o → listed.getD j false = true → o.dst = some k → T k (a.tmps.getD k undef) w

/-- The guard of an operation is known. -/
def GuardIs (ops : Array Oper) (T : Nat → Value → World → Prop) (o : Oper) (want : Bool) : Prop :=
  match o.guard with
  | none => want = true
  | some (g, b) => ∃ d, (ops[g]?).bind (·.dst) = some d ∧ ∀ u w, T d u w → u = .bool (if want then b else !b)

def OpAll (T : Nat → Value → World → Prop) (a : Act) (w : World) : List Operand → Prop
  | [] => True
  | .tmp k :: r => T k (a.tmps.getD k undef) w ∧ OpAll T a w r
  | _ :: r => OpAll T a w r

/-- One operation of the region, wherever it comes. -/
def StepOK (P : Program) (ops : Array Oper) (Q : Exit → Act → World → Prop) (T : Nat → Value → World → Prop) (G : World → Prop) (o : Oper) : Prop :=
  (GuardIs ops T o true ∧ ∀ (K : Act → World → Prop) (a : Act) (w : World), (∀ v w', (∀ d, o.dst = some d → T d v w') → G w' → Below w.heap.size w w' → K (a.put o.dst v) w') → G w → OpAll T a w o.op.operands.toList → Oper.wp P o a w K Q) ∨
  (GuardIs ops T o false ∧ ∀ w, G w → ∀ d, o.dst = some d → T d undef w)

def StepAll (P : Program) (ops : Array Oper) (Q : Exit → Act → World → Prop) (T : Nat → Value → World → Prop) (G : World → Prop) : List Oper → Prop
  | [] => True
  | o :: r => StepOK P ops Q T G o ∧ StepAll P ops Q T G r

theorem StepAll.mem {T : Nat → Value → World → Prop} {G : World → Prop} : ∀ {l : List Oper}, StepAll P ops Q T G l → ∀ o ∈ l, StepOK P ops Q T G o
  | [], _, _, h => by cases h
  | x :: l, hh, o, h => by
    rcases List.mem_cons.1 h with rfl | h
    · exact hh.1
    · exact hh.2.mem o h
theorem StepAll.append {T : Nat → Value → World → Prop} {G : World → Prop} : ∀ {l m : List Oper}, StepAll P ops Q T G l → StepAll P ops Q T G m → StepAll P ops Q T G (l.append m)
  | [], _, _, h => h
  | x :: l, m, hh, h => ⟨hh.1, StepAll.append hh.2 h⟩

theorem StepAll.nil {T : Nat → Value → World → Prop} {G : World → Prop} : StepAll P ops Q T G [] := trivial
theorem StepAll.cons {T : Nat → Value → World → Prop} {G : World → Prop} {o : Oper} {l : List Oper} (h : StepOK P ops Q T G o) (hh : StepAll P ops Q T G l) : StepAll P ops Q T G (o :: l) := ⟨h, hh⟩

theorem getD_put_ne {a : Act} {dst : Option Tmp} {v : Value} {k : Nat} (h : dst ≠ some k) : (a.put dst v).tmps.getD k undef = a.tmps.getD k undef := by
  cases dst with
  | none => rfl
  | some d =>
    have hne : d ≠ k := fun e => h (by rw [e])
    simp [Act.put, Array.getD_eq_getD_getElem?, Array.getElem?_setIfInBounds_ne hne]
theorem getD_put_self {a : Act} {v : Value} {k : Nat} (h : k < a.tmps.size) : (a.put (some k) v).tmps.getD k undef = v := by
  simp [Act.put, Array.getD_eq_getD_getElem?, h]

theorem opAll_of {T : Nat → Value → World → Prop} {a : Act} {w : World} : ∀ {l : List Operand}, (∀ k, Operand.tmp k ∈ l → T k (a.tmps.getD k undef) w) → OpAll T a w l
  | [], _ => trivial
  | .tmp k :: r, h => ⟨h k (by simp), opAll_of fun k hk => h k (by simp [hk])⟩
  | .const v :: r, h => show OpAll T a w r from opAll_of fun k hk => h k (by simp [hk])
  | .global g :: r, h => show OpAll T a w r from opAll_of fun k hk => h k (by simp [hk])
  | .func f :: r, h => show OpAll T a w r from opAll_of fun k hk => h k (by simp [hk])

theorem wanted_is {T : Nat → Value → World → Prop} {o : Oper} {want : Bool} (h : GuardIs ops T o want) {a : Act} {w : World}
    (hd : ∀ k, k ∈ (match o.guard with | some (g, _) => ((ops[g]?).bind (·.dst)).toList | none => []) → T k (a.tmps.getD k undef) w) : Region.wanted o (yielded ops a.tmps) = want := by
  unfold GuardIs at h
  unfold Region.wanted
  cases hg : o.guard with
  | none => rw [hg] at h; exact h.symm
  | some gb =>
    obtain ⟨g, b⟩ := gb
    rw [hg] at h
    obtain ⟨d, h1, h2⟩ := h
    have h3 := h2 _ _ (hd d (by rw [hg]; simp [h1]))
    have h4 : a.tmps[d]? = some (.bool (if want then b else !b)) := by
      rw [Array.getD_eq_getD_getElem?] at h3
      cases ht : a.tmps[d]? with
      | none => rw [ht] at h3; cases h3
      | some u => rw [ht] at h3; exact congrArg some h3
    have h5 : yielded ops a.tmps g = some (if want then b else !b) := by
      unfold yielded
      rw [h1]
      simp only [Option.bind_some, h4]
    show (yielded ops a.tmps g == some b) = want
    rw [h5]
    cases want <;> cases b <;> rfl

theorem guard_none {T : Nat → Value → World → Prop} {o : Oper} (h : o.guard = none) : GuardIs ops T o true := by
  unfold GuardIs; rw [h]
theorem guard_some {T : Nat → Value → World → Prop} {o : Oper} {g : Nat} {b : Bool} {d : Tmp} (h : o.guard = some (g, b)) (hd : (ops[g]?).bind (·.dst) = some d) (ht : ∀ u w, T d u w → u = .bool b) : GuardIs ops T o true := by
  unfold GuardIs; rw [h]; exact ⟨d, hd, ht⟩

theorem region_all {T : Nat → Value → World → Prop} {G : World → Prop} {bs : List Nat} {id : Nat} {a0 : Act} {w0 : World} (n : Nat) (hm : P.follows .mixedOrders = true) (hn : a0.tmps.size = n) (hok : regOk ops bs n = true)
    (hT : ∀ k u w w', T k u w → Below w.heap.size w w' → T k u w') (hG : G w0.drew) (hbase : ∀ k ∈ bs, T k (a0.tmps.getD k undef) w0.drew)
    (hs : StepAll P ops Q T G ops.toList)
    (hdone : ∀ a w, a.defers = a0.defers → a.tmps.size = n → G w → (∀ k ∈ bs, (∀ (j : Nat) (o : Oper), ops[j]? = some o → o.dst ≠ some k) → T k (a.tmps.getD k undef) w) → (∀ k, (ops.any fun o => o.dst == some k) = true → T k (a.tmps.getD k undef) w) → Q .normal a w) :
    (Code.region id ops true).wp P Q a0 w0 := by
  refine wp_region_any hm ?_
  show wpAny P .any ops Q ops.size (Array.replicate ops.size false) a0 w0.drew
  refine wpAny_inv hok (RInv ops T G bs a0) (fun _ _ _ h => h.size) ?_ ?_ _ _ _ _ ?_ ⟨by simp, hG, rfl, rfl, fun k hk _ => hbase k hk, ?_⟩
  · intro listed a w i hI hi
    obtain ⟨o, ho, hl, hdep⟩ := ready_of hi
    obtain ⟨hback, hdst, hlook⟩ := regOk_at hok ho
    have hin : i < ops.size := (Array.getElem?_eq_some_iff.1 ho).1
    have hlooks : ∀ k ∈ o.looksAt ops, T k (a.tmps.getD k undef) w := by
      intro k hk
      rcases hlook k hk with ⟨h1, h2⟩ | ⟨j, oj, hj, hd, e, he, hb, rfl⟩
      · exact hI.keep k h1 h2
      · exact hI.val _ oj k hj (hdep e he hb) hd
    -- what one operation leaves
    have after : ∀ v w', (∀ d, o.dst = some d → T d v w') → G w' → Below w.heap.size w w' → RInv ops T G bs a0 (listed.setIfInBounds i true) (a.put o.dst v) w' := by
      intro v w' hv hg hb
      refine ⟨by simpa using hI.size, hg, ?_, ?_, ?_, ?_⟩
      · rw [← hI.defers]; cases o.dst <;> rfl
      · rw [← hI.tsize]; cases o.dst <;> simp [Act.put]
      · intro k hk hw
        rw [getD_put_ne (hw i o ho)]
        exact hT _ _ _ _ (hI.keep k hk hw) hb
      · intro j oj k hj hlj hd
        by_cases hij : i = j
        · subst hij
          rw [ho] at hj
          injection hj with hj
          subst hj
          have hlt := (hdst k hd).1
          rw [hd, getD_put_self (by rw [hI.tsize, hn]; exact hlt)]
          exact hv k hd
        · have hlj' : listed.getD j false = true := by
            rw [Array.getD_eq_getD_getElem?, Array.getElem?_setIfInBounds_ne hij] at hlj
            rw [Array.getD_eq_getD_getElem?]; exact hlj
          have hne : o.dst ≠ some k := by
            intro e
            rcases Nat.lt_or_gt_of_ne hij with h1 | h1
            · exact ((regOk_at hok hj).2.1 k hd).2 i o h1 ho e
            · exact (hdst k e).2 j oj h1 hj hd
          rw [getD_put_ne hne]
          exact hT _ _ _ _ (hI.val j oj k hj hlj' hd) hb
    have hstep := hs.mem o (Array.mem_toList_iff.2 (Array.mem_of_getElem? ho))
    unfold wpOp
    simp only [ho]
    have hguard : ∀ k, k ∈ (match o.guard with | some (g, _) => ((ops[g]?).bind (·.dst)).toList | none => []) → T k (a.tmps.getD k undef) w := fun k hk => hlooks k (List.mem_append_right _ hk)
    rcases hstep with ⟨h1, h2⟩ | ⟨h1, h2⟩
    · rw [wanted_is h1 hguard, if_pos rfl]
      refine .inl (h2 _ a w after hI.good (opAll_of fun k hk => hlooks k (List.mem_append_left _ (List.mem_filterMap.2 ⟨.tmp k, hk, rfl⟩))))
    · rw [wanted_is h1 hguard, if_neg (by decide)]
      exact after _ _ (h2 w hI.good) hI.good (Below.refl _ _)
  · intro listed a w hI hall
    refine hdone a w hI.defers (by rw [hI.tsize, hn]) hI.good hI.keep (fun k hk => ?_)
    obtain ⟨o, ho, hd⟩ := Array.any_eq_true'.1 hk
    obtain ⟨j, hj⟩ := Array.getElem?_of_mem ho
    exact hI.val j o k hj (hall j (Array.getElem?_eq_some_iff.1 hj).1) (by simpa using hd)
  · simp
  · intro j o k hj hl
    rw [Array.getD_eq_getD_getElem?] at hl
    by_cases h : j < ops.size
    · simp [h] at hl
    · simp [h] at hl

end

end Go.Proofs.YtfhlpbjdcdagjaaGreatDoor

namespace Go.Proofs.YtfhlpbjdcdagjaaGreatDoor
open Go.RowKit
set_option linter.unusedVariables false
set_option maxRecDepth 100000

section
variable {P : Program} {ops : Array Oper} {Q : Exit → Act → World → Prop}

/-- Operation i waits for j, over at most f edges. -/
def dep (ops : Array Oper) : Nat → Nat → Nat → Bool
  | 0, _, _ => false
  | f + 1, i, j => match ops[i]? with
    | none => false
    | some o => o.after.any fun e => Region.binds .any e && (e.on == j || dep ops f e.on j)

def lateOk (ops : Array Oper) (m f : Nat) : Bool :=
  decide (m ≤ ops.size) && (List.range ops.size).all fun i => decide (i < m) || (List.range i).all fun j => dep ops f i j

def Closed (ops : Array Oper) (listed : Array Bool) : Prop :=
  ∀ (j : Nat) (o : Oper), ops[j]? = some o → listed.getD j false = true → ∀ e ∈ o.after, Region.binds .any e = true → listed.getD e.on false = true

theorem dep_listed {listed : Array Bool} (hc : Closed ops listed) : ∀ (f i j : Nat), dep ops f i j = true → (∀ o, ops[i]? = some o → ∀ e ∈ o.after, Region.binds .any e = true → listed.getD e.on false = true) → listed.getD j false = true
  | 0, _, _, h, _ => by cases h
  | f + 1, i, j, h, hr => by
    unfold dep at h
    cases ho : ops[i]? with
    | none => rw [ho] at h; cases h
    | some o =>
      rw [ho] at h
      obtain ⟨e, he, h1⟩ := Array.any_eq_true'.1 h
      rw [Bool.and_eq_true, Bool.or_eq_true] at h1
      have h2 := hr o ho e he h1.1
      rcases h1.2 with h3 | h3
      · rw [← (by simpa using h3 : e.on = j)]; exact h2
      · exact dep_listed hc f e.on j h3 fun o' ho' => hc e.on o' ho' h2

/-- What remains, in its order. -/
def wpRest (P : Program) (ops : Array Oper) (Q : Exit → Act → World → Prop) : List Nat → Act → World → Prop
  | [], a, w => Q .normal a w
  | i :: r, a, w => wpOp P ops Q i (wpRest P ops Q r) a w

def StepJ (P : Program) (ops : Array Oper) (Q : Exit → Act → World → Prop) (T : Nat → Value → World → Prop) (G : World → Prop) (J : Act → World → Prop) (o : Oper) : Prop :=
  GuardIs ops T o true ∧ ∀ (K : Act → World → Prop) (a : Act) (w : World), (∀ v w', (∀ d, o.dst = some d → T d v w') → G w' → Below w.heap.size w w' → J (a.put o.dst v) w' → K (a.put o.dst v) w') → G w → J a w → OpAll T a w o.op.operands.toList → Oper.wp P o a w K Q

def StepsJ (P : Program) (ops : Array Oper) (Q : Exit → Act → World → Prop) (T : Nat → Value → World → Prop) (G : World → Prop) (J : Act → World → Prop) : List Oper → Prop
  | [] => True
  | o :: r => StepJ P ops Q T G J o ∧ StepsJ P ops Q T G J r

theorem StepsJ.mem {T : Nat → Value → World → Prop} {G : World → Prop} {J : Act → World → Prop} : ∀ {l : List Oper}, StepsJ P ops Q T G J l → ∀ o ∈ l, StepJ P ops Q T G J o
  | [], _, _, h => by cases h
  | x :: l, hh, o, h => by
    rcases List.mem_cons.1 h with rfl | h
    · exact hh.1
    · exact hh.2.mem o h

theorem StepsJ.nil {T : Nat → Value → World → Prop} {G : World → Prop} {J : Act → World → Prop} : StepsJ P ops Q T G J [] := trivial

theorem StepsJ.cons {T : Nat → Value → World → Prop} {G : World → Prop} {J : Act → World → Prop} {o : Oper} {l : List Oper} (h : StepJ P ops Q T G J o) (hh : StepsJ P ops Q T G J l) : StepsJ P ops Q T G J (o :: l) := ⟨h, hh⟩

theorem frame_eq {a : Act} {n : Nat} (hn : a.tmps.size = n) : a = ⟨((List.range n).map fun k => a.tmps.getD k undef).toArray, a.defers⟩ := by
  obtain ⟨t, d⟩ := a
  congr 1
  apply Array.ext
  · simpa using hn
  · intro i h1 h2
    simp [Array.getD_eq_getD_getElem?, h1]

theorem region_split {T : Nat → Value → World → Prop} {G : World → Prop} {J : Act → World → Prop} {bs : List Nat} {id : Nat} {a0 : Act} {w0 : World} (n m f : Nat) (hm : P.follows .mixedOrders = true) (hn : a0.tmps.size = n) (hok : regOk ops bs n = true) (hlate : lateOk ops m f = true)
    (hT : ∀ k u w w', T k u w → Below w.heap.size w w' → T k u w') (hG : G w0.drew) (hJ : J a0 w0.drew) (hbase : ∀ k ∈ bs, T k (a0.tmps.getD k undef) w0.drew)
    (hs : StepsJ P ops Q T G J (ops.toList.take m))
    (hdone : ∀ a w, a.defers = a0.defers → a.tmps.size = n → G w → J a w → (∀ k ∈ bs, (∀ (j : Nat) (o : Oper), ops[j]? = some o → o.dst ≠ some k) → T k (a.tmps.getD k undef) w) → (∀ k, ((ops.toList.take m).any fun o => o.dst == some k) = true → T k (a.tmps.getD k undef) w) → wpRest P ops Q (List.range' m (ops.size - m)) a w) :
    (Code.region id ops true).wp P Q a0 w0 := by
  simp only [lateOk, Bool.and_eq_true, decide_eq_true_eq] at hlate
  obtain ⟨hmle, hlate⟩ := hlate
  have late : ∀ (listed : Array Bool) (i : Nat), Closed ops listed → i ∈ Region.ready .any ops listed → m ≤ i → ∀ j, j < i → listed.getD j false = true := by
    intro listed i hc hi hmi j hj
    obtain ⟨o, ho, _, hdep⟩ := ready_of hi
    have h1 := List.all_eq_true.1 hlate i (List.mem_range.2 (Array.getElem?_eq_some_iff.1 ho).1)
    rw [Bool.or_eq_true] at h1
    rcases h1 with h1 | h1
    · exact absurd (by simpa using h1) (Nat.not_lt.2 hmi)
    · refine dep_listed hc f i j (List.all_eq_true.1 h1 j (List.mem_range.2 hj)) fun o' ho' => ?_
      rw [ho] at ho'; injection ho' with ho'; subst ho'; exact hdep
  have closing : ∀ (listed : Array Bool) (i : Nat), Closed ops listed → i ∈ Region.ready .any ops listed → Closed ops (listed.setIfInBounds i true) := by
    intro listed i hc hi j o ho hl e he hb
    obtain ⟨o', ho', _, hdep⟩ := ready_of hi
    have h1 : listed.getD e.on false = true := by
      by_cases hij : i = j
      · subst hij
        rw [ho'] at ho; injection ho with ho; subst ho
        exact hdep e he hb
      · rw [Array.getD_eq_getD_getElem?, Array.getElem?_setIfInBounds_ne hij] at hl
        exact hc j o ho (by rw [Array.getD_eq_getD_getElem?]; exact hl) e he hb
    by_cases hie : i = e.on
    · rw [← hie] at h1 ⊢
      rw [Array.getD_eq_getD_getElem?] at h1 ⊢
      by_cases hlt : i < listed.size
      · simp [hlt]
      · simp [hlt] at h1
    · rw [Array.getD_eq_getD_getElem?, Array.getElem?_setIfInBounds_ne hie, ← Array.getD_eq_getD_getElem?]
      exact h1
  refine wp_region_any hm ?_
  show wpAny P .any ops Q ops.size (Array.replicate ops.size false) a0 w0.drew
  refine wpAny_inv hok (fun listed a w => Closed ops listed ∧ listed.size = ops.size ∧ ((RInv ops T G bs a0 listed a w ∧ J a w ∧ ∀ i, m ≤ i → listed.getD i false = false) ∨ ∃ k, m ≤ k ∧ k ≤ ops.size ∧ (∀ i, i < k → listed.getD i false = true) ∧ (∀ i, k ≤ i → listed.getD i false = false) ∧ wpRest P ops Q (List.range' k (ops.size - k)) a w)) (fun _ _ _ h => h.2.1) ?_ ?_ _ _ _ _ ?_ ⟨?_, by simp, .inl ⟨⟨by simp, hG, rfl, rfl, fun k hk _ => hbase k hk, ?_⟩, hJ, ?_⟩⟩
  · rintro listed a w i ⟨hcl, hsz, hI⟩ hi
    have hcl' := closing listed i hcl hi
    obtain ⟨o, ho, hl, hdep⟩ := ready_of hi
    have hin : i < ops.size := (Array.getElem?_eq_some_iff.1 ho).1
    have hlf : listed.getD i false = false := by
      rw [Array.getD_eq_getD_getElem?, Array.getElem?_eq_getElem (by omega)] at hl ⊢
      simpa using hl
    have set_self : ∀ j, (listed.setIfInBounds i true).getD j false = if j = i then true else listed.getD j false := by
      intro j
      by_cases hij : i = j
      · subst hij
        rw [Array.getD_eq_getD_getElem?]
        simp [hsz, hin]
      · rw [Array.getD_eq_getD_getElem?, Array.getElem?_setIfInBounds_ne hij, ← Array.getD_eq_getD_getElem?, if_neg (fun e => hij e.symm)]
    -- from k on
    have from_k : ∀ k, m ≤ k → k ≤ ops.size → (∀ j, j < k → listed.getD j false = true) → (∀ j, k ≤ j → listed.getD j false = false) → wpRest P ops Q (List.range' k (ops.size - k)) a w →
        wpOp P ops Q i (fun a' w' => Closed ops (listed.setIfInBounds i true) ∧ (listed.setIfInBounds i true).size = ops.size ∧ ((RInv ops T G bs a0 (listed.setIfInBounds i true) a' w' ∧ J a' w' ∧ ∀ j, m ≤ j → (listed.setIfInBounds i true).getD j false = false) ∨ ∃ k, m ≤ k ∧ k ≤ ops.size ∧ (∀ j, j < k → (listed.setIfInBounds i true).getD j false = true) ∧ (∀ j, k ≤ j → (listed.setIfInBounds i true).getD j false = false) ∧ wpRest P ops Q (List.range' k (ops.size - k)) a' w')) a w := by
      intro k h1 h2 h3 h4 h5
      have hik : i = k := by
        rcases Nat.lt_trichotomy i k with h | h | h
        · rw [h3 i h] at hlf; cases hlf
        · exact h
        · have := late listed i hcl hi (by omega) k h
          rw [h4 k (Nat.le_refl _)] at this; cases this
      subst hik
      have h6 : ops.size - i = (ops.size - (i + 1)) + 1 := by omega
      rw [h6, List.range'_succ] at h5
      refine wpOp_mono (fun a' w' hK => ⟨hcl', by simpa using hsz, .inr ⟨i + 1, by omega, by omega, fun j hj => ?_, fun j hj => ?_, hK⟩⟩) h5
      · rw [set_self]
        split
        · rfl
        · exact h3 j (by omega)
      · rw [set_self, if_neg (by omega)]
        exact h4 j (by omega)
    rcases hI with ⟨hI, hJw, hrest⟩ | ⟨k, h1, h2, h3, h4, h5⟩
    · by_cases him : i < m
      · obtain ⟨hback, hdst, hlook⟩ := regOk_at hok ho
        have hlooks : ∀ k ∈ o.looksAt ops, T k (a.tmps.getD k undef) w := by
          intro k hk
          rcases hlook k hk with ⟨h1, h2⟩ | ⟨j, oj, hj, hd, e, he, hb, rfl⟩
          · exact hI.keep k h1 h2
          · exact hI.val _ oj k hj (hdep e he hb) hd
        have after : ∀ v w', (∀ d, o.dst = some d → T d v w') → G w' → Below w.heap.size w w' → RInv ops T G bs a0 (listed.setIfInBounds i true) (a.put o.dst v) w' := by
          intro v w' hv hg hb
          refine ⟨by simpa using hI.size, hg, ?_, ?_, ?_, ?_⟩
          · rw [← hI.defers]; cases o.dst <;> rfl
          · rw [← hI.tsize]; cases o.dst <;> simp [Act.put]
          · intro k hk hw
            rw [getD_put_ne (hw i o ho)]
            exact hT _ _ _ _ (hI.keep k hk hw) hb
          · intro j oj k hj hlj hd
            by_cases hij : i = j
            · subst hij
              rw [ho] at hj
              injection hj with hj
              subst hj
              have hlt := (hdst k hd).1
              rw [hd, getD_put_self (by rw [hI.tsize, hn]; exact hlt)]
              exact hv k hd
            · have hlj' : listed.getD j false = true := by
                rw [Array.getD_eq_getD_getElem?, Array.getElem?_setIfInBounds_ne hij] at hlj
                rw [Array.getD_eq_getD_getElem?]; exact hlj
              have hne : o.dst ≠ some k := by
                intro e
                rcases Nat.lt_or_gt_of_ne hij with h1 | h1
                · exact ((regOk_at hok hj).2.1 k hd).2 i o h1 ho e
                · exact (hdst k e).2 j oj h1 hj hd
              rw [getD_put_ne hne]
              exact hT _ _ _ _ (hI.val j oj k hj hlj' hd) hb
        have hmem : o ∈ ops.toList.take m := by
          have h1 : (ops.toList.take m)[i]? = some o := by rw [List.getElem?_take, if_pos him]; simpa using ho
          exact List.mem_of_getElem? h1
        have hstep := hs.mem o hmem
        unfold wpOp
        simp only [ho]
        have hguard : ∀ k, k ∈ (match o.guard with | some (g, _) => ((ops[g]?).bind (·.dst)).toList | none => []) → T k (a.tmps.getD k undef) w := fun k hk => hlooks k (List.mem_append_right _ hk)
        obtain ⟨h1, h2⟩ := hstep
        rw [wanted_is h1 hguard, if_pos rfl]
        refine .inl (h2 _ a w (fun v w' e1 e2 e3 e4 => ⟨hcl', by simpa using hsz, .inl ⟨after v w' e1 e2 e3, e4, fun j hj => ?_⟩⟩) hI.good hJw (opAll_of fun k hk => hlooks k (List.mem_append_left _ (List.mem_filterMap.2 ⟨.tmp k, hk, rfl⟩))))
        rw [set_self, if_neg (by omega)]
        exact hrest j hj
      · have hall := late listed i hcl hi (by omega)
        refine from_k m (Nat.le_refl _) hmle (fun j hj => hall j (by omega)) (fun j hj => hrest j hj) ?_
        refine hdone a w hI.defers (by rw [hI.tsize, hn]) hI.good hJw hI.keep (fun k hk => ?_)
        obtain ⟨o', ho', hd'⟩ := List.any_eq_true.1 hk
        obtain ⟨j, hj, hj2⟩ := List.getElem_of_mem ho'
        have hjm : j < m := by simp at hj; omega
        have hj3 : ops[j]? = some o' := by
          rw [List.getElem_take] at hj2
          rw [← hj2, Array.getElem_toList]
          exact Array.getElem?_eq_getElem (by simp at hj; omega)
        exact hI.val j o' k hj3 (hall j (by omega)) (by simpa using hd')
    · exact from_k k h1 h2 h3 h4 h5
  · rintro listed a w ⟨hcl, hsz, hI⟩ hall
    rcases hI with ⟨hI, hJw, hrest⟩ | ⟨k, h1, h2, h3, h4, h5⟩
    · have hmn : ops.size = m := by
        rcases Nat.lt_or_ge m ops.size with h | h
        · have := hall m h
          rw [hrest m (Nat.le_refl _)] at this; cases this
        · omega
      have h5 := hdone a w hI.defers (by rw [hI.tsize, hn]) hI.good hJw hI.keep (fun k hk => by
        obtain ⟨o', ho', hd'⟩ := List.any_eq_true.1 hk
        obtain ⟨j, hj, hj2⟩ := List.getElem_of_mem ho'
        have hjm : j < m := by simp at hj; omega
        have hj3 : ops[j]? = some o' := by
          rw [List.getElem_take] at hj2
          rw [← hj2, Array.getElem_toList]
          exact Array.getElem?_eq_getElem (by simp at hj; omega)
        exact hI.val j o' k hj3 (hall j (by omega)) (by simpa using hd'))
      rw [hmn, Nat.sub_self] at h5
      exact h5
    · have hk : k = ops.size := by
        rcases Nat.lt_or_ge k ops.size with h | h
        · have := hall k h
          rw [h4 k (Nat.le_refl _)] at this; cases this
        · omega
      subst hk
      rw [Nat.sub_self] at h5
      exact h5
  · simp
  · intro j o ho hl
    rw [Array.getD_eq_getD_getElem?] at hl
    by_cases h : j < ops.size
    · simp [h] at hl
    · simp [h] at hl
  · intro j o k hj hl
    rw [Array.getD_eq_getD_getElem?] at hl
    by_cases h : j < ops.size
    · simp [h] at hl
    · simp [h] at hl
  · intro i hi
    rw [Array.getD_eq_getD_getElem?]
    by_cases h : i < ops.size
    · simp [h]
    · simp [h]

end

end Go.Proofs.YtfhlpbjdcdagjaaGreatDoor
