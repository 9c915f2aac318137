/- Layer 4, code: words that are read: Parse. -/
import Derived.Test.YtfhlpbjdcdagjaaGreatDoorHap
import Derived.Test.YtfhlpbjdcdagjaaGreatDoorHag
import Derived.Test.YtfhlpbjdcdagjaaGreatDoorHae
import Derived.Test.YtfhlpbjdcdagjaaGreatDoorHak
import Derived.Test.YtfhlpbjdcdagjaaGreatDoorHam
import Derived.ChangeKeysEq
import Derived.Test.YtfhlpbjdcdagjaaGreatDoorHao
namespace Go.Proofs.YtfhlpbjdcdagjaaGreatDoor
open Go.RowKit Go.Lib
set_option linter.unusedVariables false
set_option maxRecDepth 100000

theorem own_shape {w : World} {B : Nat} {t : TypeId} {v : Value} {n : Nat} {xs : List Value} {size : Nat} (h : w.ownsRow B t size v n xs) (hn : 0 < n) : ∃ g cap, v = .slice (some ⟨g, 0, none⟩) n cap ∧ B ≤ g ∧ g < w.heap.size := by
  rcases h.2 with ⟨rfl, h0⟩ | ⟨g, cap, cur, rfl, hb, hg, _⟩
  · omega
  · exact ⟨g, cap, rfl, hb, (Array.getElem?_eq_some_iff.1 hg).1⟩

theorem own_slice {w : World} {B : Nat} {t : TypeId} {v : Value} {n : Nat} {xs : List Value} {size : Nat} (h : w.ownsRow B t size v n xs) : ∃ A c, v = .slice A n c := by
  rcases h.2 with ⟨rfl, h0⟩ | ⟨g, cap, cur, rfl, _⟩
  · exact ⟨none, 0, by rw [h0]⟩
  · exact ⟨_, _, rfl⟩

/-- What is left stands in box b; q was read into v, behind b. -/
structure PSt (B b : Nat) (q : List (Int × Int)) (v : Value) (L : ByteArray) (W w : World) : Prop where
  lt : B ≤ b
  cell : w.cell? ⟨b, 0, none⟩ = some (.string L)
  froz : w.frozen? ⟨b, 0, none⟩ = false
  own : w.ownsRow (b + 1) 88 2 v q.length (insCells q)
  bel : Below B W w

section
variable {B b : Nat} {q : List (Int × Int)} {v : Value} {L : ByteArray} {W w w' : World}

theorem PSt.below (h : PSt B b q v L W w) (hb : Below w.heap.size w w') : PSt B b q v L W w' := by
  have hl := World.block_lt_of_cell? w _ h.cell
  obtain ⟨hc, hf⟩ := bcell hb
  exact ⟨h.lt, (hc _ _ hl).trans h.cell, (hf _ _ hl).trans h.froz, owns_below h.own hb, h.bel.trans (hb.mono (by have := h.lt; simp only at hl; omega))⟩

theorem PSt.box (h : PSt B b q v L W w) (n : Nat) (R : ByteArray) : PSt B b q v R W ((w.drewN n).setCell ⟨b, 0, none⟩ (.string R)) := by
  have hl := World.block_lt_of_cell? w _ h.cell
  refine ⟨h.lt, World.cell?_setCell_same (u := .string L) _ _ _ h.cell, by rw [World.frozen?_setCell]; exact h.froz, ?_, (below_drewN' h.bel n).setCell h.lt _⟩
  have hg : w.grownBy ((w.drewN n).setCell ⟨b, 0, none⟩ (.string R)) (some b) := turned_set (turned_drewN (turned_refl w (some b)) n) (.inl rfl) _
  refine h.own.kept hg ?_
  cases hv : v.ownBlock with
  | none => exact .inl rfl
  | some k => exact .inr (by intro e; injection e with e; have := (h.own.lt k hv).1; omega)

theorem PSt.app {v' : Value} {o a : Int} (h : PSt B b q v L W w) (hg : w.grownBy w' v.ownBlock) (ho : w'.ownsRow (b + 1) 88 2 v' (q.length + 1) (insCells q ++ [.int .i64 o, .int .i64 a])) : PSt B b (q ++ [(o, a)]) v' L W w' := by
  have hl := World.block_lt_of_cell? w _ h.cell
  have hne : some b ≠ v.ownBlock := by
    intro e
    have := (h.own.lt b e.symm).1
    omega
  have hbb := hg.block b hl hne
  refine ⟨h.lt, hg.cell h.cell hne, (World.frozen?_of_block (a := ⟨b, 0, none⟩) hbb).trans h.froz, ?_, h.bel.grown hg (by have := h.lt; simp only at hl; omega) (fun k hk => by have := (h.own.lt k hk).1; have := h.lt; omega)⟩
  rw [insCells_snoc, List.length_append]
  exact ho

theorem PSt.num {g cap : Nat} {o z : Int} (h : PSt B b (q ++ [(o, z)]) (.slice (some ⟨g, 0, none⟩) (q.length + 1) cap) L W w) (a : Int) :
    PSt B b (q ++ [(o, a)]) (.slice (some ⟨g, 0, none⟩) (q.length + 1) cap) L W (w.setCell ⟨g, q.length * 2 + 1, none⟩ (.int .i64 a)) := by
  have hown : w.ownsRow (b + 1) 88 2 (.slice (some ⟨g, 0, none⟩) (q.length + 1) cap) (q.length + 1) (insCells q ++ [.int .i64 o, .int .i64 z]) := by
    have := h.own
    rw [List.length_append, insCells_snoc] at this
    exact this
  have hl := World.block_lt_of_cell? w _ h.cell
  have hgb := (hown.lt g rfl).1
  obtain ⟨h1, h2⟩ := hown.stored (q.length * 2 + 1) (.int .i64 a)
  refine ⟨h.lt, ?_, ?_, ?_, h.bel.setCell (by have := h.lt; simp only; omega) _⟩
  · rw [World.cell?_setCell_other _ _ _ _ (by simp only [ne_eq, Addr.mk.injEq]; omega)]; exact h.cell
  · rw [World.frozen?_setCell]; exact h.froz
  · rw [List.length_append, insCells_snoc]
    have e : (insCells q ++ [Value.int .i64 o, Value.int .i64 z]).set (q.length * 2 + 1) (.int .i64 a) = insCells q ++ [.int .i64 o, .int .i64 a] := by
      rw [List.set_append_right _ _ (by rw [insCells_len]; omega), insCells_len, show q.length * 2 + 1 - q.length * 2 = 1 by omega]
      rfl
    rw [e] at h1
    exact h1

end

def lenV : Value → Nat
  | .slice _ n _ => n
  | _ => 0

theorem ext_nil {S : ByteArray} (h : S.size = 0) : S = ⟨#[]⟩ := by
  apply ByteArray.ext
  exact Array.eq_empty_of_size_eq_zero h

/-- What is read of the last instruction. -/
theorem PSt.last {B b : Nat} {q : List (Int × Int)} {L : ByteArray} {W w : World} {g cap : Nat} {o z : Int} (h : PSt B b (q ++ [(o, z)]) (.slice (some ⟨g, 0, none⟩) (q.length + 1) cap) L W w) :
    w.cell? ⟨g, q.length * 2, none⟩ = some (.int .i64 o) ∧ w.cell? ⟨g, q.length * 2 + 1, none⟩ = some (.int .i64 z) ∧ (∀ j, w.frozen? ⟨g, j, none⟩ = false) ∧ b < g := by
  have hown : w.ownsRow (b + 1) 88 2 (.slice (some ⟨g, 0, none⟩) (q.length + 1) cap) (q.length + 1) (insCells q ++ [.int .i64 o, .int .i64 z]) := by
    have := h.own
    rw [List.length_append, insCells_snoc] at this
    exact this
  refine ⟨?_, ?_, hown.frozenAt, (hown.lt g rfl).1⟩
  · rw [hown.cellAt _ (by omega), List.getElem?_append_right (by rw [insCells_len]; omega), insCells_len, Nat.sub_self]
    rfl
  · rw [hown.cellAt _ (by omega), List.getElem?_append_right (by rw [insCells_len]; omega), insCells_len, show q.length * 2 + 1 - q.length * 2 = 1 by omega]
    rfl

/-- The frame at a label: the text, the results, what was read, the box of what is left, the word's closure. -/
structure AtFrame (S : ByteArray) (b : Nat) (q : List (Int × Int)) (A : Option Addr) (c : Nat) (a : Act) : Prop where
  size : a.tmps.size = 48
  defers : a.defers = []
  t0 : a.tmps.getD 0 undef = .string S
  t2 : a.tmps.getD 2 undef = .slice none 0 0
  t3 : a.tmps.getD 3 undef = .int .i64 0
  t4 : a.tmps.getD 4 undef = .slice A q.length c
  t5 : a.tmps.getD 5 undef = .pointer (some ⟨b, 0, none⟩)
  t6 : a.tmps.getD 6 undef = .func (.func 38) #[] #[.pointer (some ⟨b, 0, none⟩)]

theorem AtFrame.open_ {S : ByteArray} {b : Nat} {q : List (Int × Int)} {A : Option Addr} {c : Nat} {a : Act} (h : AtFrame S b q A c a) : ∃ u : Nat → Value, a = ⟨#[.string S, u 1, .slice none 0 0, .int .i64 0, .slice A q.length c, .pointer (some ⟨b, 0, none⟩), .func (.func 38) #[] #[.pointer (some ⟨b, 0, none⟩)], u 7, u 8, u 9, u 10, u 11, u 12, u 13, u 14, u 15, u 16, u 17, u 18, u 19, u 20, u 21, u 22, u 23, u 24, u 25, u 26, u 27, u 28, u 29, u 30, u 31, u 32, u 33, u 34, u 35, u 36, u 37, u 38, u 39, u 40, u 41, u 42, u 43, u 44, u 45, u 46, u 47], []⟩ := by
  obtain ⟨hn, hd, h0, h2, h3, h4, h5, h6⟩ := h
  obtain ⟨u, hu⟩ : ∃ u : Nat → Value, u = fun k => a.tmps.getD k undef := ⟨_, rfl⟩
  have ha : a = ⟨#[u 0, u 1, u 2, u 3, u 4, u 5, u 6, u 7, u 8, u 9, u 10, u 11, u 12, u 13, u 14, u 15, u 16, u 17, u 18, u 19, u 20, u 21, u 22, u 23, u 24, u 25, u 26, u 27, u 28, u 29, u 30, u 31, u 32, u 33, u 34, u 35, u 36, u 37, u 38, u 39, u 40, u 41, u 42, u 43, u 44, u 45, u 46, u 47], a.defers⟩ := by
    rw [hu]; exact frame_eq hn
  have e0 : u 0 = _ := (congrFun hu 0).trans h0
  have e2 : u 2 = _ := (congrFun hu 2).trans h2
  have e3 : u 3 = _ := (congrFun hu 3).trans h3
  have e4 : u 4 = _ := (congrFun hu 4).trans h4
  have e5 : u 5 = _ := (congrFun hu 5).trans h5
  have e6 : u 6 = _ := (congrFun hu 6).trans h6
  rw [e0, e2, e3, e4, e5, e6, hd] at ha
  exact ⟨u, ha⟩

/-- At the label that is jumped back to. -/
def AtNext (S : ByteArray) (w : World) (a : Act) (wr : World) : Prop :=
  ∃ (q : List (Int × Int)) (A : Option Addr) (c : Nat) (L : ByteArray),
    AtFrame S w.heap.size q A c a ∧ q.length ≤ 25 ∧ L.size ≤ 1000 ∧ Hid (Rdg S.data.toList q L.data.toList) ∧ Hid (PSt w.heap.size w.heap.size q (.slice A q.length c) L w wr)

/-- At the label that is jumped ahead to. -/
def AtEnd (S : ByteArray) (w : World) (a : Act) (wr : World) : Prop :=
  ∃ (q : List (Int × Int)) (A : Option Addr) (c : Nat) (L : ByteArray),
    AtFrame S w.heap.size q A c a ∧ q.length ≤ 25 ∧ Hid (L.data.toList = [] ∨ 24 < q.length) ∧ Hid (Rdg S.data.toList q L.data.toList) ∧ Hid (PSt w.heap.size w.heap.size q (.slice A q.length c) L w wr)

theorem PSt.new (w : World) (S : ByteArray) : PSt w.heap.size w.heap.size [] (.slice none 0 0) S w (w.alloc (.cells #[.string S] 9)) := by
  refine ⟨Nat.le_refl _, by simp, by simp, World.ownsRow_nil _ _ _ _, (Below.refl _ _).alloc (Nat.le_refl _) _⟩

set_option maxRecDepth 100000 in
set_option maxHeartbeats 4000000 in
theorem cparse_any (S : ByteArray) (hs : S.size ≤ 1000) (w : World) (he : Env4 w) :
    Calls Tryz.prog 23 #[.string S] w fun e w' => (∃ v l r, e = .returned (.tuple #[v, .int .i64 r]) ∧ PrsIs S.data.toList l r ∧ SlV w' w'.heap.size v l) ∧ Below w.heap.size w w' := by
  have HE := hid he; clear he
  go_enter Tryz.func23, Tryz.ntmps23
  go_wp2_with fail
  refine wp_scope_two 1 0 (AtNext S w) (AtEnd S w) (fun a _ => 25 - lenV (a.tmps.getD 4 undef)) rfl rfl ?_ ?_ ?_
  · intro H
    go_wp2_with fail
    go_step3
    rename_i hK
    exact hK _ _ (H _ _ ⟨[], none, 0, S, ⟨rfl, rfl, rfl, rfl, rfl, rfl, rfl, rfl⟩, by simp, hs, hid (Rdg.start _), hid (PSt.new w S)⟩)
  · rintro a wr ⟨q, A, c, L, hfr, hq, hL, HR, HP⟩
    obtain ⟨u, rfl⟩ := hfr.open_
    clear hfr
    have hcell := HP.out.cell
    have hfroz := HP.out.froz
    by_cases hL0 : L.size = 0
    · obtain rfl := ext_nil hL0
      clear hL0
      go_wp2_with fail
      go_step3
      exact Or.inr ⟨rfl, q, A, c, _, ⟨rfl, rfl, rfl, rfl, rfl, rfl, rfl, rfl⟩, hq, hid (.inl rfl), HR, HP⟩
    · have hne : ¬ L.toList = [] := fun e => hL0 (by rw [toList_eq] at e; rw [size_list, e]; rfl)
      have hem : L.toList.isEmpty = false := by simpa using hne
      have HN : Hid (L.data.toList ≠ []) := hid (by rw [← toList_eq]; exact hne)
      clear hL0
      by_cases hq24 : 24 < q.length
      · have d1 : decide ((24 : Int) < (q.length : Int)) = true := decide_eq_true (by omega)
        go_wp2_with fail
        go_step3
        exact Or.inr ⟨rfl, q, A, c, L, ⟨rfl, rfl, rfl, rfl, rfl, rfl, rfl, rfl⟩, hq, hid (.inr hq24), HR, HP⟩
      · have d1 : decide ((24 : Int) < (q.length : Int)) = false := decide_eq_false (by omega)
        obtain ⟨W1, hW1⟩ : ∃ W : ByteArray, ⟨(wordL L.data.toList).toArray⟩ = W := ⟨_, rfl⟩
        obtain ⟨R1, hR1⟩ : ∃ W : ByteArray, ⟨(restL L.data.toList).toArray⟩ = W := ⟨_, rfl⟩
        obtain ⟨o, ho⟩ : ∃ o, opOf W1.data.toList = o := ⟨_, rfl⟩
        have hR1s : R1.size ≤ 1000 := by
          rw [← hR1, size_mk]
          have := restL_len L.data.toList
          rw [← size_list] at this
          omega
        have HW1 := hid hW1; have HR1 := hid hR1; have HO := hid ho
        clear hW1 hR1 ho
        have HEr := hid (HE.out.below HP.out.bel)
        go_wp2_with fail
        refine (word_any _ L W1 R1 HW1 HR1 hL wr hcell hfroz HEr.out).mono ?_
        rintro e w1 ⟨rfl, n, rfl⟩
        have hP1 := HP.out.box n R1
        clear hcell hfroz HEr
        generalize (wr.drewN n).setCell ⟨w.heap.size, 0, none⟩ (.string R1) = w1 at hP1 ⊢
        have HP1 := hid hP1; clear hP1
        have HE1 := hid (HE.out.below HP1.out.bel)
        go_wp2_with fail
        refine (operation_any W1 o HO _ HE1.out).mono ?_
        rintro e w2 ⟨rfl, rfl⟩
        obtain ⟨i0, hi, hz0, hz1, hz2⟩ := info_parts insInfo
        have HP2 := hid (HP1.out.below ((Below.refl _ w2).alloc (Nat.le_refl _) (.cells #[.int .i64 o, .int .i64 0] 88)))
        have HC : Hid (∀ j u, [Value.int .i64 o, Value.int .i64 0][j]? = some u → (w2.alloc (.cells #[.int .i64 o, .int .i64 0] 88)).cell? ((⟨w2.heap.size, 0, none⟩ : Addr).add j) = some u) := hid (fun j u hj => new_cells _ #[.int .i64 o, .int .i64 0] _ j u (by simpa using hj))
        go_wp2_with (at_builtin; refine wpList_append_own _ rfl _ _ 39 rfl (w.heap.size + 1) 88 i0 (.agg #[.int .i64 0, .int .i64 0]) 2 16 Tryz.underlying39 hi hz0 hz1 hz2 rfl (by decide) _ _ _ rfl HP2.out.own ⟨w2.heap.size, 0, none⟩ 1 1 [.int .i64 o, .int .i64 0] rfl rfl HC.out (by intro u hu; simp at hu; rcases hu with rfl | rfl <;> rfl) (by unfold maxLen; omega) (by omega) (by have := HP1.out.cell; have := World.block_lt_of_cell? _ _ this; simp only [World.size_alloc] at this ⊢; omega) ?_; intro s' w3 hown3 hg3 _; obtain ⟨g, cap, rfl, hg0, hg1⟩ := own_shape hown3 (by omega); have HP3 := hid (HP2.out.app hg3 hown3); obtain ⟨l0, l1, lf, lb⟩ := HP3.out.last; have lf1 := lf (q.length * 2 + 1); clear lf hown3 hg3)
        have HRW : Hid (wordL L.data.toList = W1.data.toList) := hid (by rw [← HW1.out])
        have HRR : Hid (restL L.data.toList = R1.data.toList) := hid (by rw [← HR1.out])
        cases hn : numdI o with
        | false =>
          have HND := hid hn; clear hn
          refine (numbered_any o false HND _).mono ?_
          rintro e w4 ⟨rfl, rfl⟩
          go_wp2_with fail
          go_step3
          refine Or.inl ⟨rfl, ⟨q ++ [(o, 0)], some ⟨g, 0, none⟩, cap, R1, ⟨rfl, rfl, rfl, rfl, rfl, ?_, rfl, rfl⟩, ?_, hR1s, hid ?_, ?_⟩, ?_⟩
          · rw [List.length_append]; rfl
          · rw [List.length_append]; simp only [List.length_cons, List.length_nil]; omega
          · rw [← HRR.out]
            exact HR.out.plain HN.out (by rw [HRW.out]; exact HO.out) HND.out
          · rw [List.length_append]; exact HP3
          · show 25 - (q.length + 1) < 25 - q.length
            omega
        | true =>
          have HND := hid hn; clear hn
          refine (numbered_any o true HND _).mono ?_
          rintro e w4 ⟨rfl, rfl⟩
          obtain ⟨W2, hW2⟩ : ∃ W : ByteArray, ⟨(wordL R1.data.toList).toArray⟩ = W := ⟨_, rfl⟩
          obtain ⟨R2, hR2⟩ : ∃ W : ByteArray, ⟨(restL R1.data.toList).toArray⟩ = W := ⟨_, rfl⟩
          have hW2s : W2.size ≤ 1000 := by
            rw [← hW2, size_mk]
            have := wordL_len R1.data.toList
            rw [← size_list] at this
            omega
          have hR2s : R2.size ≤ 1000 := by
            rw [← hR2, size_mk]
            have := restL_len R1.data.toList
            rw [← size_list] at this
            omega
          have HW2 := hid hW2; have HR2 := hid hR2
          clear hW2 hR2
          have hcell := HP3.out.cell
          have hfroz := HP3.out.froz
          have HE4 := hid (HE.out.below HP3.out.bel)
          go_wp2_with fail
          refine (word_any _ R1 W2 R2 HW2 HR2 hR1s w4 hcell hfroz HE4.out).mono ?_
          rintro e w5 ⟨rfl, n5, rfl⟩
          have hP5 := HP3.out.box n5 R2
          clear hcell hfroz HE4 l0 l1 lf1
          generalize (w4.drewN n5).setCell ⟨w.heap.size, 0, none⟩ (.string R2) = w5 at hP5 ⊢
          have HP5 := hid hP5; clear hP5
          have HE5 := hid (HE.out.below HP5.out.bel)
          go_wp2_with fail
          refine (atoi_num W2 hW2s _ HE5.out.num).mono ?_
          rintro e w6 ⟨⟨v6, rfl, hv6⟩, hb6⟩
          obtain ⟨a, e6, rfl⟩ : ∃ a e, v6 = .tuple #[.int .i64 a, e] := by cases hv6 <;> exact ⟨_, _, rfl⟩
          have HP6 := hid (HP5.out.below hb6)
          have HV6 := hid hv6
          obtain ⟨l0, l1, lf, lb⟩ := HP6.out.last
          have lf1 := lf (q.length * 2 + 1)
          clear lf hb6 hv6
          go_wp2_with fail
          go_step3
          refine Or.inl ⟨rfl, ⟨q ++ [(o, a)], some ⟨g, 0, none⟩, cap, R2, ⟨rfl, rfl, rfl, rfl, rfl, ?_, rfl, rfl⟩, ?_, hR2s, hid ?_, ?_⟩, ?_⟩
          · rw [List.length_append]; rfl
          · rw [List.length_append]; simp only [List.length_cons, List.length_nil]; omega
          · have e1 : restL (restL L.data.toList) = R2.data.toList := by rw [HRR.out, ← HR2.out]
            have e2 : wordL (restL L.data.toList) = W2.data.toList := by rw [HRR.out, ← HW2.out]
            rw [← e1]
            refine HR.out.numbered HN.out (by rw [HRW.out]; exact HO.out) HND.out (fun n hn => ?_)
            rw [e2] at hn
            rcases HV6.out.ways with ⟨_, h⟩ | ⟨_, _, _, h⟩
            · rw [h] at hn
              injection hn
            · exact absurd hn (h n)
          · rw [List.length_append]; exact hid (HP6.out.num a)
          · show 25 - (q.length + 1) < 25 - q.length
            omega
  · rintro a wr ⟨q, A, c, L, hfr, hq, HL, HR, HP⟩
    obtain ⟨u, rfl⟩ := hfr.open_
    clear hfr
    obtain ⟨T, hT⟩ : ∃ T : ByteArray, ⟨(outL q).toArray⟩ = T := ⟨_, rfl⟩
    have HT := hid hT; clear hT
    have HV := hid (SlV.of_own HP.out.own)
    go_wp2_with fail
    refine (ctext_any _ q T HT (by omega) _ HV.out (HE.out.below HP.out.bel)).mono ?_
    rintro e w1 ⟨rfl, hb⟩
    have HP1 := hid (HP.out.below hb)
    clear hb HV
    have HV := hid (SlV.of_own HP1.out.own)
    have HTl : Hid (T.data.toList = outL q) := hid (by rw [← HT.out])
    by_cases hTS : T = S
    · have h1 := str_beq hTS
      have HQ := hid hTS; clear hTS
      go_wp2_with fail
      rw [Exit.noGoto_ret]
      go_ret2
      exact ⟨⟨_, q, 0, rfl, HR.out.good HL.out (by rw [← HTl.out, HQ.out]), HV.out⟩, HP1.out.bel⟩
    · have h1 := str_bne hTS
      have HQ := hid hTS; clear hTS
      go_wp2_with fail
      rw [Exit.noGoto_ret]
      go_ret2
      exact ⟨⟨_, [], 4, rfl, HR.out.bad HL.out (fun e => HQ.out (by rw [← mk_data T, HTl.out, e, mk_data])), ⟨none, 0, rfl, Nat.le_refl _, fun h => absurd h (by simp)⟩⟩, HP1.out.bel⟩

end Go.Proofs.YtfhlpbjdcdagjaaGreatDoor

namespace Go.Proofs.YtfhlpbjdcdagjaaGreatDoor
open Go.RowKit Go.Lib
set_option linter.unusedVariables false
set_option maxRecDepth 100000

/-- The document's example. -/
def exP : List (Int × Int) := [(3, 0), (4, 0), (6, 0), (11, 0), (5, 0), (14, 0)]

theorem exP_fits : fitsL exP = true := by decide

theorem exP_chk : (chk exP).isSome = true := by rfl

theorem exP_text : (⟨#[73, 78, 59, 32, 76, 79, 65, 68, 32, 48, 59, 32, 65, 68, 68, 59, 32, 68, 85, 80, 59, 32, 83, 84, 79, 82, 69, 32, 48, 59, 32, 69, 77, 73, 84]⟩ : ByteArray).data.toList = textL exP := by decide +kernel

theorem into_small (n : Int) (h0 : -524288 ≤ n) (h1 : n ≤ 524287) : into n = n := into_of n h0 h1

theorem exP_run : eachS exP [(1, 0), (2, 0)] ⟨[], [], (0, 0), (0, 0), 0⟩ = ⟨[], [(1, 0), (3, 0)], (3, 0), (0, 0), 12⟩ := by
  simp [eachS, runS, fin, finN, exP, opAt, arAt, nxt, stepS, doS, topV, cutV, twoV, addV, into_small]

/-- The boxes of a law: the input, the cells. -/
structure Bxs (w : World) (g : Nat) (x y a b c d : Int) : Prop where
  lt : g + 1 < w.heap.size
  k0 : w.cell? ⟨g, 0, none⟩ = some (.int .i64 x)
  k1 : w.cell? ⟨g, 1, none⟩ = some (.int .i64 y)
  q0 : w.cell? ⟨g + 1, 0, none⟩ = some (.int .i64 a)
  q1 : w.cell? ⟨g + 1, 1, none⟩ = some (.int .i64 b)
  q2 : w.cell? ⟨g + 1, 2, none⟩ = some (.int .i64 c)
  q3 : w.cell? ⟨g + 1, 3, none⟩ = some (.int .i64 d)

theorem Bxs.below {w w' : World} {g : Nat} {x y a b c d : Int} (h : Bxs w g x y a b c d) (hb : Below w.heap.size w w') : Bxs w' g x y a b c d := by
  obtain ⟨hc, _⟩ := bcell hb
  have := h.lt
  exact ⟨Nat.lt_of_lt_of_le h.lt hb.size, (hc _ _ (by omega)).trans h.k0, (hc _ _ (by omega)).trans h.k1, (hc _ _ h.lt).trans h.q0, (hc _ _ h.lt).trans h.q1, (hc _ _ h.lt).trans h.q2, (hc _ _ h.lt).trans h.q3⟩

theorem law_boxes (w : World) (x y a b c d : Int) (t0 t1 : TypeId) : ∃ W : World, (w.alloc (.cells #[.int .i64 x, .int .i64 y] t0)).alloc (.cells #[.int .i64 a, .int .i64 b, .int .i64 c, .int .i64 d] t1) = W ∧ Hid (Below w.heap.size w W) ∧ Hid (Bxs W w.heap.size x y a b c d) := by
  refine ⟨_, rfl, hid (((Below.refl _ w).alloc (Nat.le_refl _) _).alloc (by simp) _), hid ⟨by simp, by simp, by simp, by simp, by simp, by simp, by simp⟩⟩

/-- A result in a box. -/
structure Res6 (w : World) (g : Nat) (vo : Value) (a b c d n : Int) : Prop where
  lt : g < w.heap.size
  r0 : w.cell? ⟨g, 0, none⟩ = some vo
  r1 : w.cell? ⟨g, 1, none⟩ = some (.int .i64 a)
  r2 : w.cell? ⟨g, 2, none⟩ = some (.int .i64 b)
  r3 : w.cell? ⟨g, 3, none⟩ = some (.int .i64 c)
  r4 : w.cell? ⟨g, 4, none⟩ = some (.int .i64 d)
  r5 : w.cell? ⟨g, 5, none⟩ = some (.int .i64 n)

theorem Res6.below {w w' : World} {g : Nat} {vo : Value} {a b c d n : Int} (h : Res6 w g vo a b c d n) (hb : Below w.heap.size w w') : Res6 w' g vo a b c d n := by
  obtain ⟨hc, _⟩ := bcell hb
  exact ⟨Nat.lt_of_lt_of_le h.lt hb.size, (hc _ _ h.lt).trans h.r0, (hc _ _ h.lt).trans h.r1, (hc _ _ h.lt).trans h.r2, (hc _ _ h.lt).trans h.r3, (hc _ _ h.lt).trans h.r4, (hc _ _ h.lt).trans h.r5⟩

theorem Res6.new (w : World) (vo : Value) (a b c d n : Int) (t : TypeId) : Res6 (w.alloc (.cells #[vo, .int .i64 a, .int .i64 b, .int .i64 c, .int .i64 d, .int .i64 n] t)) w.heap.size vo a b c d n :=
  ⟨by simp, by simp, by simp, by simp, by simp, by simp, by simp⟩

theorem i64_both {x y : Int} (hx : (Lit.int .i64 x).wf = true) (hy : (Lit.int .i64 y).wf = true) : I64 x ∧ I64 y := ⟨i64_of hx, i64_of hy⟩

end Go.Proofs.YtfhlpbjdcdagjaaGreatDoor

namespace Go.Proofs.YtfhlpbjdcdagjaaGreatDoor
open Go.RowKit Go.Lib
set_option linter.unusedVariables false
set_option maxRecDepth 100000

def usesB (l : List (Int × Int)) : Bool := l.any fun x => x.1 == 5

theorem usesB_snoc {l : List (Int × Int)} {k : Nat} (h : k < l.length) : usesB (l.take (k + 1)) = (usesB (l.take k) || (l.getD k (0, 0)).1 == 5) := by
  unfold usesB
  rw [List.take_succ_eq_append_getElem h, List.any_append, List.getD_eq_getElem?_getD, List.getElem?_eq_getElem h]
  simp

/-- What is known of a run. -/
theorem run_known {l : List (Int × Int)} {x : Int × Int} {c0 c1 : Int × Int} (h : (chk l).isSome = true) (h2 : (rgtB c0 && rgtB c1 && [x].all rgtB) = true) {F : VmS} (hF : eachS l [x] ⟨[], [], c0, c1, 0⟩ = F) :
    l.length ≤ 24 ∧ F.n ≤ l.length ∧ F.out.length ≤ 4 ∧ F.out.all rgtB = true ∧ rgtB F.c0 = true ∧ rgtB F.c1 = true ∧ (usesB l = false → F.c0 = c0 ∧ F.c1 = c1) := by
  obtain ⟨s, hs⟩ := Option.isSome_iff_exists.1 h
  obtain ⟨hf, sem⟩ := chk_some hs
  simp only [List.all_cons, List.all_nil, Bool.and_true, Bool.and_eq_true, rgtB_iff] at h2
  have e : runS l x ⟨[], [], c0, c1, 0⟩ = F := hF
  obtain ⟨a, b, c⟩ := run_bounds sem.good hf h2.2 (s := ⟨[], [], c0, c1, 0⟩) ⟨by simp, by simp, h2.1.1, h2.1.2⟩
  rw [e] at a b c
  simp only [List.length_nil] at b c
  refine ⟨((fitsL_iff l).1 hf).1, by omega, by omega, List.all_eq_true.2 fun y hy => (rgtB_iff y).2 (a.out y hy), (rgtB_iff _).2 a.c0, (rgtB_iff _).2 a.c1, fun hu => ?_⟩
  have hno : ∀ t, t < l.length → opAt l t ≠ 5 := by
    intro t ht q
    have : usesB l = true := List.any_eq_true.2 ⟨l[t], List.getElem_mem ht, by
      unfold opAt at q
      rw [List.getD_eq_getElem?_getD, List.getElem?_eq_getElem ht] at q
      simpa using q⟩
    rw [hu] at this
    cases this
  have := fin_cells hno x (l.length - 0) 0 ⟨[], [], c0, c1, 0⟩
  rw [← e]
  exact this

end Go.Proofs.YtfhlpbjdcdagjaaGreatDoor

namespace Go.Proofs.YtfhlpbjdcdagjaaGreatDoor
open Go.RowKit Go.Lib Go.MapKept
set_option linter.unusedVariables false
set_option maxRecDepth 100000

abbrev recV (k x y : Int) : Value := .agg #[.int .i64 k, .int .i64 x, .int .i64 y]

/-- A box of three. -/
structure Bx3 (w : World) (g : Nat) (k x y : Int) : Prop where
  lt : g < w.heap.size
  q0 : w.cell? ⟨g, 0, none⟩ = some (.int .i64 k)
  q1 : w.cell? ⟨g, 1, none⟩ = some (.int .i64 x)
  q2 : w.cell? ⟨g, 2, none⟩ = some (.int .i64 y)

theorem Bx3.below {w w' : World} {g : Nat} {k x y : Int} (h : Bx3 w g k x y) (hb : Below w.heap.size w w') : Bx3 w' g k x y := by
  obtain ⟨hc, hf⟩ := bcell hb
  exact ⟨Nat.lt_of_lt_of_le h.lt hb.size, (hc _ _ h.lt).trans h.q0, (hc _ _ h.lt).trans h.q1, (hc _ _ h.lt).trans h.q2⟩

theorem Bx3.grown {w w' : World} {g r : Nat} {k x y : Int} (h : Bx3 w g k x y) (hb : w.grownBy w' (some r)) (hr : r ≠ g) : Bx3 w' g k x y := by
  have hk := hb.block g h.lt (fun e => hr (by injection e with e; exact e.symm))
  have q := fun j => World.cell?_of_block (a := ⟨g, j, none⟩) hk
  exact ⟨Nat.lt_of_lt_of_le h.lt hb.size, (q 0).trans h.q0, (q 1).trans h.q1, (q 2).trans h.q2⟩

theorem box3 (w : World) (k x y : Int) (t : TypeId) : ∃ W : World, w.alloc (.cells #[.int .i64 k, .int .i64 x, .int .i64 y] t) = W ∧ Hid (Below w.heap.size w W) ∧ Hid (Bx3 W w.heap.size k x y) :=
  ⟨_, rfl, hid ((Below.refl _ w).alloc (Nat.le_refl _) _), hid ⟨by simp, by simp [World.cell?_alloc_new], by simp [World.cell?_alloc_new], by simp [World.cell?_alloc_new]⟩⟩

set_option maxHeartbeats 1000000 in
theorem cright_rec (k x y : Int) (hx : I64 x) (hy : I64 y) (w : World) : Calls Tryz.prog 28 #[recV k x y] w fun e w' => e = .returned (.bool (keyB k && rgtB (x, y))) ∧ Below w.heap.size w w' := by
  have HI := hid (And.intro hx hy)
  clear hx hy
  obtain ⟨β, hβ⟩ : ∃ β, keyB k = β := ⟨_, rfl⟩
  obtain ⟨γ, hγ⟩ : ∃ γ, rgtB (x, y) = γ := ⟨_, rfl⟩
  have Hβ := hid hβ
  have Hγ : Hid ((decide (x = into x) && decide (y = into y)) = γ) := hid hγ
  rw [hβ, hγ]
  clear hβ hγ
  obtain ⟨W, hW, HB, HX⟩ := box3 w k x y 41
  have ⟨_, q0, q1, q2⟩ := HX.out
  go_enter Tryz.func28, Tryz.ntmps28
  go_wp2_with fail
  clear hW
  refine (ikey_any k W).mono ?_
  rintro e w1 ⟨rfl, rfl⟩
  rw [Hβ.out]
  cases β with
  | false =>
    go_wp2_with fail
    go_ret
    exact ⟨rfl, HB.out⟩
  | true =>
    go_wp2_with fail
    refine (right_any x y HI.out.1 HI.out.2 w1).mono ?_
    rintro e w2 ⟨rfl, hb⟩
    rw [Hγ.out]
    have HB2 := hid (HB.out.trans (hb.mono HB.out.size))
    clear hb q0 q1 q2
    go_wp2_with fail
    go_ret
    exact ⟨by cases γ <;> rfl, HB2.out⟩

/-- What a run answers. -/
structure RunQ where
  out : List (Int × Int)
  a : Int
  b : Int
  c : Int
  d : Int
  n : Int
  e : Int

def runQ (l : List (Int × Int)) (v c0 c1 : Int × Int) : RunQ :=
  if (chk l).isSome = true then
    ⟨(eachS l [v] ⟨[], [], c0, c1, 0⟩).out, (eachS l [v] ⟨[], [], c0, c1, 0⟩).c0.1, (eachS l [v] ⟨[], [], c0, c1, 0⟩).c0.2, (eachS l [v] ⟨[], [], c0, c1, 0⟩).c1.1, (eachS l [v] ⟨[], [], c0, c1, 0⟩).c1.2, (eachS l [v] ⟨[], [], c0, c1, 0⟩).n, 0⟩
  else ⟨[], 0, 0, 0, 0, 0, 9⟩

theorem eachis_q {l : List (Int × Int)} {v c0 c1 : Int × Int} {B : Nat} {w : World} {r : Value} (h : EachIs l c0 c1 [v] B w r) (hr : rgtB v = true) (h0 : rgtB c0 = true) (h1 : rgtB c1 = true) {q : RunQ} (hq : runQ l v c0 c1 = q) :
    ∃ vo, r = .tuple #[resV vo q.a q.b q.c q.d q.n, .int .i64 q.e] ∧ w.ownsRow B 31 2 vo q.out.length (insCells q.out) := by
  unfold runQ at hq
  cases h with
  | code h =>
    rw [if_neg (by rw [h]; decide)] at hq
    subst hq
    exact ⟨_, rfl, World.ownsRow_nil _ _ _ _⟩
  | arg h h2 =>
    rw [h0, h1] at h2
    simp [hr] at h2
  | ok h h2 vo F hF ho =>
    rw [if_pos h, hF] at hq
    subst hq
    exact ⟨vo, rfl, ho⟩

/-- What a slot of the region holds. -/
inductive Kr
  | is (v : Value)
  | res
  | res0
  | box
  | any

def Kr.ok (N : Nat) (q : RunQ) (k : Kr) (u : Value) (w : World) : Prop :=
  match k with
  | .is v => u = v
  | .res => ∃ vo, u = .tuple #[resV vo q.a q.b q.c q.d q.n, .int .i64 q.e] ∧ w.ownsRow N 31 2 vo q.out.length (insCells q.out)
  | .res0 => ∃ vo, u = resV vo q.a q.b q.c q.d q.n ∧ w.ownsRow N 31 2 vo q.out.length (insCells q.out)
  | .box => ∃ g c0 c1 c2 c3 c4 c5, u = .pointer (some ⟨g, 0, none⟩) ∧ N ≤ g ∧ w.heap[g]? = some (.cells #[c0, c1, c2, c3, c4, c5] 79 (0, 0))
  | .any => True

/-- What an operation makes of the world. -/
def RunR (w w' : World) : Prop := Below w.heap.size w w' ∨ ∃ g c0 c1 c2 c3 c4 c5 d0 d1 d2 d3 d4 d5, w.heap[g]? = some (.cells #[c0, c1, c2, c3, c4, c5] 79 (0, 0)) ∧ w'.heap[g]? = some (.cells #[d0, d1, d2, d3, d4, d5] 79 (0, 0)) ∧ w.grownBy w' (some g)

theorem own_typed {w w' : World} {B g n k : Nat} {e t : TypeId} {v : Value} {xs : List Value} {cs : Array Value} {fr : Nat × Nat} (h : w.ownsRow B e k v n xs) (hb : w.heap[g]? = some (.cells cs t fr)) (hne : e ≠ t) (hg : w.grownBy w' (some g)) : w'.ownsRow B e k v n xs := by
  refine ⟨h.1, ?_⟩
  rcases h.2 with h0 | ⟨g', cap, cur, a, b, c, d⟩
  · exact .inl h0
  · refine .inr ⟨g', cap, cur, a, b, ?_, d⟩
    have hlt := (Array.getElem?_eq_some_iff.1 c).1
    rw [hg.block g' hlt (fun q => by
      injection q with q
      rw [q, hb] at c
      injection c with c
      injection c with _ c
      exact hne c.symm)]
    exact c

theorem Kr.stable (N : Nat) (q : RunQ) (k : Kr) (u : Value) (w w' : World) (h : k.ok N q u w) (hr : RunR w w') : k.ok N q u w' := by
  have hne : (31 : TypeId) ≠ 79 := by decide
  have own : ∀ vo, w.ownsRow N 31 2 vo q.out.length (insCells q.out) → w'.ownsRow N 31 2 vo q.out.length (insCells q.out) := by
    intro vo ho
    rcases hr with hb | ⟨g, c0, c1, c2, c3, c4, c5, d0, d1, d2, d3, d4, d5, h1, h2, hg⟩
    · exact own_below ho hb
    · exact own_typed ho h1 hne hg
  cases k with
  | is v => exact h
  | any => trivial
  | res =>
    obtain ⟨vo, e, ho⟩ := h
    exact ⟨vo, e, own vo ho⟩
  | res0 =>
    obtain ⟨vo, e, ho⟩ := h
    exact ⟨vo, e, own vo ho⟩
  | box =>
    obtain ⟨g, c0, c1, c2, c3, c4, c5, e, hN, hb⟩ := h
    have hlt := (Array.getElem?_eq_some_iff.1 hb).1
    rcases hr with hbl | ⟨g', a0, a1, a2, a3, a4, a5, d0, d1, d2, d3, d4, d5, h1, h2, hg⟩
    · exact ⟨g, c0, c1, c2, c3, c4, c5, e, hN, (hbl.block g hlt).trans hb⟩
    · by_cases q : g = g'
      · subst q
        exact ⟨g, d0, d1, d2, d3, d4, d5, e, hN, h2⟩
      · exact ⟨g, c0, c1, c2, c3, c4, c5, e, hN, (hg.block g hlt (fun e => q (by injection e))).trans hb⟩

/-- When the store (13) is done: the box holds the answer. -/
def RunJ (N : Nat) (q : RunQ) (listed : Array Bool) (a : Act) (w : World) : Prop :=
  listed.getD 13 false = true → ∃ g vo, a.tmps.getD 10 undef = .pointer (some ⟨g, 0, none⟩) ∧ N ≤ g ∧ w.heap[g]? = some (.cells #[vo, .int .i64 q.a, .int .i64 q.b, .int .i64 q.c, .int .i64 q.d, .int .i64 q.n] 79 (0, 0)) ∧ w.ownsRow N 31 2 vo q.out.length (insCells q.out)

theorem RunJ.keep {N : Nat} {q : RunQ} {listed : Array Bool} {a : Act} {w w' : World} {i : Nat} {dst : Option Tmp} {v : Value} (h : RunJ N q listed a w) (hi : i ≠ 13) (hd : dst ≠ some 10) (hb : Below w.heap.size w w') : RunJ N q (listed.setIfInBounds i true) (a.put dst v) w' := by
  intro hl
  rw [Array.getD_eq_getD_getElem?, Array.getElem?_setIfInBounds_ne hi, ← Array.getD_eq_getD_getElem?] at hl
  obtain ⟨g, vo, h1, h2, h3, h4⟩ := h hl
  exact ⟨g, vo, by rw [getD_put_ne hd]; exact h1, h2, (hb.block g (Array.getElem?_eq_some_iff.1 h3).1).trans h3, own_below h4 hb⟩

theorem RunJ.first {N : Nat} {q : RunQ} {listed : Array Bool} {a : Act} {w : World} {i : Nat} (hi : i ≠ 13) (h : listed.getD 13 false = false) : RunJ N q (listed.setIfInBounds i true) a w := by
  intro hl
  rw [Array.getD_eq_getD_getElem?, Array.getElem?_setIfInBounds_ne hi, ← Array.getD_eq_getD_getElem?, h] at hl
  cases hl

/-- All six cells are set. -/
theorem set6_block {w : World} {g : Nat} {c0 c1 c2 c3 c4 c5 : Value} {t : TypeId} (h : w.heap[g]? = some (.cells #[c0, c1, c2, c3, c4, c5] t (0, 0))) (v0 : Value) (a b c d n : Int) :
    (set6 w g v0 a b c d n).heap[g]? = some (.cells #[v0, .int .i64 a, .int .i64 b, .int .i64 c, .int .i64 d, .int .i64 n] t (0, 0)) := by
  have one : ∀ {w : World} {cs : Array Value} (j : Nat) (u : Value), w.heap[g]? = some (.cells cs t (0, 0)) → (w.setCell ⟨g, j, none⟩ u).heap[g]? = some (.cells (cs.setIfInBounds j u) t (0, 0)) := by
    intro w cs j u hb
    unfold World.setCell
    simp only [Array.getElem?_modify, if_true, hb, Option.map_some]
    rfl
  unfold set6
  have h1 := one 5 (.int .i64 n) (one 4 (.int .i64 d) (one 3 (.int .i64 c) (one 2 (.int .i64 b) (one 1 (.int .i64 a) (one 0 v0 h)))))
  simpa using h1

theorem res_cells {w : World} {g : Nat} {c0 c1 c2 c3 c4 c5 : Value} {t : TypeId} (h : w.heap[g]? = some (.cells #[c0, c1, c2, c3, c4, c5] t (0, 0))) :
    g < w.heap.size ∧ w.cell? ⟨g, 0, none⟩ = some c0 ∧ w.cell? ⟨g, 1, none⟩ = some c1 ∧ w.cell? ⟨g, 2, none⟩ = some c2 ∧ w.cell? ⟨g, 3, none⟩ = some c3 ∧ w.cell? ⟨g, 4, none⟩ = some c4 ∧ w.cell? ⟨g, 5, none⟩ = some c5 ∧ ∀ j, w.frozen? ⟨g, j, none⟩ = false := by
  refine ⟨(Array.getElem?_eq_some_iff.1 h).1, ?_, ?_, ?_, ?_, ?_, ?_, fun j => ?_⟩
  all_goals first
    | (unfold World.cell?; rw [h]; rfl)
    | (unfold World.frozen?; rw [h]; simp)

end Go.Proofs.YtfhlpbjdcdagjaaGreatDoor
