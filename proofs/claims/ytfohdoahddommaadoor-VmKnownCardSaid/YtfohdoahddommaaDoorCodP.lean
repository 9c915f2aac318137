/- Layer 4, code: words that are read: Parse. -/
import Derived.Test.YtfohdoahddommaaDoorCodT
import Derived.Test.YtfohdoahddommaaDoorJumps
import Derived.Test.YtfohdoahddommaaDoorIns
namespace Go.Proofs.YtfohdoahddommaaDoor
open Go.RowKit Go.Lib
set_option linter.unusedVariables false
set_option maxRecDepth 100000

theorem own_shape {w : World} {B : Nat} {t : TypeId} {v : Value} {n : Nat} {xs : List Value} {size : Nat} (h : w.ownsRow B t size v n xs) (hn : 0 < n) : ∃ g cap, v = .slice (some ⟨g, 0, none⟩) n cap ∧ B ≤ g ∧ g < w.heap.size := by
  rcases h.2 with ⟨rfl, h0⟩ | ⟨g, cap, cur, rfl, hb, hg, _⟩
  · omega
  · exact ⟨g, cap, rfl, hb, (Array.getElem?_eq_some_iff.1 hg).1⟩

theorem own_slice {w : World} {B : Nat} {t : TypeId} {v : Value} {n : Nat} {xs : List Value} {size : Nat} (h : w.ownsRow B t size v n xs) : ∃ A c, v = .slice A n c := by
  rcases h.2 with ⟨rfl, h0⟩ | ⟨g, cap, cur, rfl, _⟩
  · exact ⟨none, 0, by rw [h0]⟩
  · exact ⟨_, _, rfl⟩

/-- What is left stands in box b; q was read into v, behind b. -/
structure PSt (B b : Nat) (q : List (Int × Int)) (v : Value) (L : ByteArray) (W w : World) : Prop where
  lt : B ≤ b
  cell : w.cell? ⟨b, 0, none⟩ = some (.string L)
  froz : w.frozen? ⟨b, 0, none⟩ = false
  own : w.ownsRow (b + 1) 37 2 v q.length (insCells q)
  bel : Below B W w

section
variable {B b : Nat} {q : List (Int × Int)} {v : Value} {L : ByteArray} {W w w' : World}

theorem PSt.below (h : PSt B b q v L W w) (hb : Below w.heap.size w w') : PSt B b q v L W w' := by
  have hl := World.block_lt_of_cell? w _ h.cell
  obtain ⟨hc, hf⟩ := bcell hb
  exact ⟨h.lt, (hc _ _ hl).trans h.cell, (hf _ _ hl).trans h.froz, owns_below h.own hb, h.bel.trans (hb.mono (by have := h.lt; simp only at hl; omega))⟩

theorem PSt.box (h : PSt B b q v L W w) (n : Nat) (R : ByteArray) : PSt B b q v R W ((w.drewN n).setCell ⟨b, 0, none⟩ (.string R)) := by
  have hl := World.block_lt_of_cell? w _ h.cell
  refine ⟨h.lt, World.cell?_setCell_same (u := .string L) _ _ _ h.cell, by rw [World.frozen?_setCell]; exact h.froz, ?_, (below_drewN' h.bel n).setCell h.lt _⟩
  have hg : w.grownBy ((w.drewN n).setCell ⟨b, 0, none⟩ (.string R)) (some b) := turned_set (turned_drewN (turned_refl w (some b)) n) (.inl rfl) _
  refine h.own.kept hg ?_
  cases hv : v.ownBlock with
  | none => exact .inl rfl
  | some k => exact .inr (by intro e; injection e with e; have := (h.own.lt k hv).1; omega)

theorem PSt.app {v' : Value} {o a : Int} (h : PSt B b q v L W w) (hg : w.grownBy w' v.ownBlock) (ho : w'.ownsRow (b + 1) 37 2 v' (q.length + 1) (insCells q ++ [.int .i64 o, .int .i64 a])) : PSt B b (q ++ [(o, a)]) v' L W w' := by
  have hl := World.block_lt_of_cell? w _ h.cell
  have hne : some b ≠ v.ownBlock := by
    intro e
    have := (h.own.lt b e.symm).1
    omega
  have hbb := hg.block b hl hne
  refine ⟨h.lt, hg.cell h.cell hne, (World.frozen?_of_block (a := ⟨b, 0, none⟩) hbb).trans h.froz, ?_, h.bel.grown hg (by have := h.lt; simp only at hl; omega) (fun k hk => by have := (h.own.lt k hk).1; have := h.lt; omega)⟩
  rw [insCells_snoc, List.length_append]
  exact ho

theorem PSt.num {g cap : Nat} {o z : Int} (h : PSt B b (q ++ [(o, z)]) (.slice (some ⟨g, 0, none⟩) (q.length + 1) cap) L W w) (a : Int) :
    PSt B b (q ++ [(o, a)]) (.slice (some ⟨g, 0, none⟩) (q.length + 1) cap) L W (w.setCell ⟨g, q.length * 2 + 1, none⟩ (.int .i64 a)) := by
  have hown : w.ownsRow (b + 1) 37 2 (.slice (some ⟨g, 0, none⟩) (q.length + 1) cap) (q.length + 1) (insCells q ++ [.int .i64 o, .int .i64 z]) := by
    have := h.own
    rw [List.length_append, insCells_snoc] at this
    exact this
  have hl := World.block_lt_of_cell? w _ h.cell
  have hgb := (hown.lt g rfl).1
  obtain ⟨h1, h2⟩ := hown.stored (q.length * 2 + 1) (.int .i64 a)
  refine ⟨h.lt, ?_, ?_, ?_, h.bel.setCell (by have := h.lt; simp only; omega) _⟩
  · rw [World.cell?_setCell_other _ _ _ _ (by simp only [ne_eq, Addr.mk.injEq]; omega)]; exact h.cell
  · rw [World.frozen?_setCell]; exact h.froz
  · rw [List.length_append, insCells_snoc]
    have e : (insCells q ++ [Value.int .i64 o, Value.int .i64 z]).set (q.length * 2 + 1) (.int .i64 a) = insCells q ++ [.int .i64 o, .int .i64 a] := by
      rw [List.set_append_right _ _ (by rw [insCells_len]; omega), insCells_len, show q.length * 2 + 1 - q.length * 2 = 1 by omega]
      rfl
    rw [e] at h1
    exact h1

end

def lenV : Value → Nat
  | .slice _ n _ => n
  | _ => 0

theorem ext_nil {S : ByteArray} (h : S.size = 0) : S = ⟨#[]⟩ := by
  apply ByteArray.ext
  exact Array.eq_empty_of_size_eq_zero h

/-- What is read of the last instruction. -/
theorem PSt.last {B b : Nat} {q : List (Int × Int)} {L : ByteArray} {W w : World} {g cap : Nat} {o z : Int} (h : PSt B b (q ++ [(o, z)]) (.slice (some ⟨g, 0, none⟩) (q.length + 1) cap) L W w) :
    w.cell? ⟨g, q.length * 2, none⟩ = some (.int .i64 o) ∧ w.cell? ⟨g, q.length * 2 + 1, none⟩ = some (.int .i64 z) ∧ (∀ j, w.frozen? ⟨g, j, none⟩ = false) ∧ b < g := by
  have hown : w.ownsRow (b + 1) 37 2 (.slice (some ⟨g, 0, none⟩) (q.length + 1) cap) (q.length + 1) (insCells q ++ [.int .i64 o, .int .i64 z]) := by
    have := h.own
    rw [List.length_append, insCells_snoc] at this
    exact this
  refine ⟨?_, ?_, hown.frozenAt, (hown.lt g rfl).1⟩
  · rw [hown.cellAt _ (by omega), List.getElem?_append_right (by rw [insCells_len]; omega), insCells_len, Nat.sub_self]
    rfl
  · rw [hown.cellAt _ (by omega), List.getElem?_append_right (by rw [insCells_len]; omega), insCells_len, show q.length * 2 + 1 - q.length * 2 = 1 by omega]
    rfl

/-- The frame at a label: the text, the results, what was read, the box of what is left, the word's closure. -/
structure AtFrame (S : ByteArray) (b : Nat) (q : List (Int × Int)) (A : Option Addr) (c : Nat) (a : Act) : Prop where
  size : a.tmps.size = 48
  defers : a.defers = []
  t0 : a.tmps.getD 0 undef = .string S
  t2 : a.tmps.getD 2 undef = .slice none 0 0
  t3 : a.tmps.getD 3 undef = .int .i64 0
  t4 : a.tmps.getD 4 undef = .slice A q.length c
  t5 : a.tmps.getD 5 undef = .pointer (some ⟨b, 0, none⟩)
  t6 : a.tmps.getD 6 undef = .func (.func 22) #[] #[.pointer (some ⟨b, 0, none⟩)]

theorem AtFrame.open_ {S : ByteArray} {b : Nat} {q : List (Int × Int)} {A : Option Addr} {c : Nat} {a : Act} (h : AtFrame S b q A c a) : ∃ u : Nat → Value, a = ⟨#[.string S, u 1, .slice none 0 0, .int .i64 0, .slice A q.length c, .pointer (some ⟨b, 0, none⟩), .func (.func 22) #[] #[.pointer (some ⟨b, 0, none⟩)], u 7, u 8, u 9, u 10, u 11, u 12, u 13, u 14, u 15, u 16, u 17, u 18, u 19, u 20, u 21, u 22, u 23, u 24, u 25, u 26, u 27, u 28, u 29, u 30, u 31, u 32, u 33, u 34, u 35, u 36, u 37, u 38, u 39, u 40, u 41, u 42, u 43, u 44, u 45, u 46, u 47], []⟩ := by
  obtain ⟨hn, hd, h0, h2, h3, h4, h5, h6⟩ := h
  obtain ⟨u, hu⟩ : ∃ u : Nat → Value, u = fun k => a.tmps.getD k undef := ⟨_, rfl⟩
  have ha : a = ⟨#[u 0, u 1, u 2, u 3, u 4, u 5, u 6, u 7, u 8, u 9, u 10, u 11, u 12, u 13, u 14, u 15, u 16, u 17, u 18, u 19, u 20, u 21, u 22, u 23, u 24, u 25, u 26, u 27, u 28, u 29, u 30, u 31, u 32, u 33, u 34, u 35, u 36, u 37, u 38, u 39, u 40, u 41, u 42, u 43, u 44, u 45, u 46, u 47], a.defers⟩ := by
    rw [hu]; exact frame_eq hn
  have e0 : u 0 = _ := (congrFun hu 0).trans h0
  have e2 : u 2 = _ := (congrFun hu 2).trans h2
  have e3 : u 3 = _ := (congrFun hu 3).trans h3
  have e4 : u 4 = _ := (congrFun hu 4).trans h4
  have e5 : u 5 = _ := (congrFun hu 5).trans h5
  have e6 : u 6 = _ := (congrFun hu 6).trans h6
  rw [e0, e2, e3, e4, e5, e6, hd] at ha
  exact ⟨u, ha⟩

/-- At the label that is jumped back to. -/
def AtNext (S : ByteArray) (w : World) (a : Act) (wr : World) : Prop :=
  ∃ (q : List (Int × Int)) (A : Option Addr) (c : Nat) (L : ByteArray),
    AtFrame S w.heap.size q A c a ∧ q.length ≤ 25 ∧ L.size ≤ 1000 ∧ Hid (Rdg S.data.toList q L.data.toList) ∧ Hid (PSt w.heap.size w.heap.size q (.slice A q.length c) L w wr)

/-- At the label that is jumped ahead to. -/
def AtEnd (S : ByteArray) (w : World) (a : Act) (wr : World) : Prop :=
  ∃ (q : List (Int × Int)) (A : Option Addr) (c : Nat) (L : ByteArray),
    AtFrame S w.heap.size q A c a ∧ q.length ≤ 25 ∧ Hid (L.data.toList = [] ∨ 24 < q.length) ∧ Hid (Rdg S.data.toList q L.data.toList) ∧ Hid (PSt w.heap.size w.heap.size q (.slice A q.length c) L w wr)

theorem PSt.new (w : World) (S : ByteArray) : PSt w.heap.size w.heap.size [] (.slice none 0 0) S w (w.alloc (.cells #[.string S] 9)) := by
  refine ⟨Nat.le_refl _, by simp, by simp, World.ownsRow_nil _ _ _ _, (Below.refl _ _).alloc (Nat.le_refl _) _⟩

set_option maxRecDepth 100000 in
set_option maxHeartbeats 4000000 in
theorem cparse_any (S : ByteArray) (hs : S.size ≤ 1000) (w : World) (he : Env4 w) :
    Calls Tryd.prog 16 #[.string S] w fun e w' => (∃ v l r, e = .returned (.tuple #[v, .int .i64 r]) ∧ PrsIs S.data.toList l r ∧ SlV w' w'.heap.size v l) ∧ Below w.heap.size w w' := by
  have HE := hid he; clear he
  go_enter Tryd.func16, Tryd.ntmps16
  go_wp2_with fail
  refine wp_scope_two 1 0 (AtNext S w) (AtEnd S w) (fun a _ => 25 - lenV (a.tmps.getD 4 undef)) rfl rfl ?_ ?_ ?_
  · intro H
    go_wp2_with fail
    go_step3
    rename_i hK
    exact hK _ _ (H _ _ ⟨[], none, 0, S, ⟨rfl, rfl, rfl, rfl, rfl, rfl, rfl, rfl⟩, by simp, hs, hid (Rdg.start _), hid (PSt.new w S)⟩)
  · rintro a wr ⟨q, A, c, L, hfr, hq, hL, HR, HP⟩
    obtain ⟨u, rfl⟩ := hfr.open_
    clear hfr
    have hcell := HP.out.cell
    have hfroz := HP.out.froz
    by_cases hL0 : L.size = 0
    · obtain rfl := ext_nil hL0
      clear hL0
      go_wp2_with fail
      go_step3
      exact Or.inr ⟨rfl, q, A, c, _, ⟨rfl, rfl, rfl, rfl, rfl, rfl, rfl, rfl⟩, hq, hid (.inl rfl), HR, HP⟩
    · have hne : ¬ L.toList = [] := fun e => hL0 (by rw [toList_eq] at e; rw [size_list, e]; rfl)
      have hem : L.toList.isEmpty = false := by simpa using hne
      have HN : Hid (L.data.toList ≠ []) := hid (by rw [← toList_eq]; exact hne)
      clear hL0
      by_cases hq24 : 24 < q.length
      · have d1 : decide ((24 : Int) < (q.length : Int)) = true := decide_eq_true (by omega)
        go_wp2_with fail
        go_step3
        exact Or.inr ⟨rfl, q, A, c, L, ⟨rfl, rfl, rfl, rfl, rfl, rfl, rfl, rfl⟩, hq, hid (.inr hq24), HR, HP⟩
      · have d1 : decide ((24 : Int) < (q.length : Int)) = false := decide_eq_false (by omega)
        obtain ⟨W1, hW1⟩ : ∃ W : ByteArray, ⟨(wordL L.data.toList).toArray⟩ = W := ⟨_, rfl⟩
        obtain ⟨R1, hR1⟩ : ∃ W : ByteArray, ⟨(restL L.data.toList).toArray⟩ = W := ⟨_, rfl⟩
        obtain ⟨o, ho⟩ : ∃ o, opOf W1.data.toList = o := ⟨_, rfl⟩
        have hR1s : R1.size ≤ 1000 := by
          rw [← hR1, size_mk]
          have := restL_len L.data.toList
          rw [← size_list] at this
          omega
        have HW1 := hid hW1; have HR1 := hid hR1; have HO := hid ho
        clear hW1 hR1 ho
        have HEr := hid (HE.out.below HP.out.bel)
        go_wp2_with fail
        refine (word_any _ L W1 R1 HW1 HR1 hL wr hcell hfroz HEr.out).mono ?_
        rintro e w1 ⟨rfl, n, rfl⟩
        have hP1 := HP.out.box n R1
        clear hcell hfroz HEr
        generalize (wr.drewN n).setCell ⟨w.heap.size, 0, none⟩ (.string R1) = w1 at hP1 ⊢
        have HP1 := hid hP1; clear hP1
        have HE1 := hid (HE.out.below HP1.out.bel)
        go_wp2_with fail
        refine (operation_any W1 o HO _ HE1.out).mono ?_
        rintro e w2 ⟨rfl, rfl⟩
        obtain ⟨i0, hi, hz0, hz1, hz2⟩ := info_parts insInfo
        have HP2 := hid (HP1.out.below ((Below.refl _ w2).alloc (Nat.le_refl _) (.cells #[.int .i64 o, .int .i64 0] 37)))
        have HC : Hid (∀ j u, [Value.int .i64 o, Value.int .i64 0][j]? = some u → (w2.alloc (.cells #[.int .i64 o, .int .i64 0] 37)).cell? ((⟨w2.heap.size, 0, none⟩ : Addr).add j) = some u) := hid (fun j u hj => new_cells _ #[.int .i64 o, .int .i64 0] _ j u (by simpa using hj))
        go_wp2_with (at_builtin; refine wpList_append_own _ rfl _ _ 22 rfl (w.heap.size + 1) 37 i0 (.agg #[.int .i64 0, .int .i64 0]) 2 16 Tryd.underlying22 hi hz0 hz1 hz2 rfl (by decide) _ _ _ rfl HP2.out.own ⟨w2.heap.size, 0, none⟩ 1 1 [.int .i64 o, .int .i64 0] rfl rfl HC.out (by intro u hu; simp at hu; rcases hu with rfl | rfl <;> rfl) (by unfold maxLen; omega) (by omega) (by have := HP1.out.cell; have := World.block_lt_of_cell? _ _ this; simp only [World.size_alloc] at this ⊢; omega) ?_; intro s' w3 hown3 hg3 _; obtain ⟨g, cap, rfl, hg0, hg1⟩ := own_shape hown3 (by omega); have HP3 := hid (HP2.out.app hg3 hown3); obtain ⟨l0, l1, lf, lb⟩ := HP3.out.last; have lf1 := lf (q.length * 2 + 1); clear lf hown3 hg3)
        have HRW : Hid (wordL L.data.toList = W1.data.toList) := hid (by rw [← HW1.out])
        have HRR : Hid (restL L.data.toList = R1.data.toList) := hid (by rw [← HR1.out])
        cases hn : numdI o with
        | false =>
          have HND := hid hn; clear hn
          refine (numbered_any o false HND _).mono ?_
          rintro e w4 ⟨rfl, rfl⟩
          go_wp2_with fail
          go_step3
          refine Or.inl ⟨rfl, ⟨q ++ [(o, 0)], some ⟨g, 0, none⟩, cap, R1, ⟨rfl, rfl, rfl, rfl, rfl, ?_, rfl, rfl⟩, ?_, hR1s, hid ?_, ?_⟩, ?_⟩
          · rw [List.length_append]; rfl
          · rw [List.length_append]; simp only [List.length_cons, List.length_nil]; omega
          · rw [← HRR.out]
            exact HR.out.plain HN.out (by rw [HRW.out]; exact HO.out) HND.out
          · rw [List.length_append]; exact HP3
          · show 25 - (q.length + 1) < 25 - q.length
            omega
        | true =>
          have HND := hid hn; clear hn
          refine (numbered_any o true HND _).mono ?_
          rintro e w4 ⟨rfl, rfl⟩
          obtain ⟨W2, hW2⟩ : ∃ W : ByteArray, ⟨(wordL R1.data.toList).toArray⟩ = W := ⟨_, rfl⟩
          obtain ⟨R2, hR2⟩ : ∃ W : ByteArray, ⟨(restL R1.data.toList).toArray⟩ = W := ⟨_, rfl⟩
          have hW2s : W2.size ≤ 1000 := by
            rw [← hW2, size_mk]
            have := wordL_len R1.data.toList
            rw [← size_list] at this
            omega
          have hR2s : R2.size ≤ 1000 := by
            rw [← hR2, size_mk]
            have := restL_len R1.data.toList
            rw [← size_list] at this
            omega
          have HW2 := hid hW2; have HR2 := hid hR2
          clear hW2 hR2
          have hcell := HP3.out.cell
          have hfroz := HP3.out.froz
          have HE4 := hid (HE.out.below HP3.out.bel)
          go_wp2_with fail
          refine (word_any _ R1 W2 R2 HW2 HR2 hR1s w4 hcell hfroz HE4.out).mono ?_
          rintro e w5 ⟨rfl, n5, rfl⟩
          have hP5 := HP3.out.box n5 R2
          clear hcell hfroz HE4 l0 l1 lf1
          generalize (w4.drewN n5).setCell ⟨w.heap.size, 0, none⟩ (.string R2) = w5 at hP5 ⊢
          have HP5 := hid hP5; clear hP5
          have HE5 := hid (HE.out.below HP5.out.bel)
          go_wp2_with fail
          refine (atoi_num W2 hW2s _ HE5.out.num).mono ?_
          rintro e w6 ⟨⟨v6, rfl, hv6⟩, hb6⟩
          obtain ⟨a, e6, rfl⟩ : ∃ a e, v6 = .tuple #[.int .i64 a, e] := by cases hv6 <;> exact ⟨_, _, rfl⟩
          have HP6 := hid (HP5.out.below hb6)
          have HV6 := hid hv6
          obtain ⟨l0, l1, lf, lb⟩ := HP6.out.last
          have lf1 := lf (q.length * 2 + 1)
          clear lf hb6 hv6
          go_wp2_with fail
          go_step3
          refine Or.inl ⟨rfl, ⟨q ++ [(o, a)], some ⟨g, 0, none⟩, cap, R2, ⟨rfl, rfl, rfl, rfl, rfl, ?_, rfl, rfl⟩, ?_, hR2s, hid ?_, ?_⟩, ?_⟩
          · rw [List.length_append]; rfl
          · rw [List.length_append]; simp only [List.length_cons, List.length_nil]; omega
          · have e1 : restL (restL L.data.toList) = R2.data.toList := by rw [HRR.out, ← HR2.out]
            have e2 : wordL (restL L.data.toList) = W2.data.toList := by rw [HRR.out, ← HW2.out]
            rw [← e1]
            refine HR.out.numbered HN.out (by rw [HRW.out]; exact HO.out) HND.out (fun n hn => ?_)
            rw [e2] at hn
            rcases HV6.out.ways with ⟨_, h⟩ | ⟨_, _, _, h⟩
            · rw [h] at hn
              injection hn
            · exact absurd hn (h n)
          · rw [List.length_append]; exact hid (HP6.out.num a)
          · show 25 - (q.length + 1) < 25 - q.length
            omega
  · rintro a wr ⟨q, A, c, L, hfr, hq, HL, HR, HP⟩
    obtain ⟨u, rfl⟩ := hfr.open_
    clear hfr
    obtain ⟨T, hT⟩ : ∃ T : ByteArray, ⟨(outL q).toArray⟩ = T := ⟨_, rfl⟩
    have HT := hid hT; clear hT
    have HV := hid (SlV.of_own HP.out.own)
    go_wp2_with fail
    refine (ctext_any _ q T HT (by omega) _ HV.out (HE.out.below HP.out.bel)).mono ?_
    rintro e w1 ⟨rfl, hb⟩
    have HP1 := hid (HP.out.below hb)
    clear hb HV
    have HV := hid (SlV.of_own HP1.out.own)
    have HTl : Hid (T.data.toList = outL q) := hid (by rw [← HT.out])
    by_cases hTS : T = S
    · have h1 := str_beq hTS
      have HQ := hid hTS; clear hTS
      go_wp2_with fail
      rw [Exit.noGoto_ret]
      go_ret2
      exact ⟨⟨_, q, 0, rfl, HR.out.good HL.out (by rw [← HTl.out, HQ.out]), HV.out⟩, HP1.out.bel⟩
    · have h1 := str_bne hTS
      have HQ := hid hTS; clear hTS
      go_wp2_with fail
      rw [Exit.noGoto_ret]
      go_ret2
      exact ⟨⟨_, [], 4, rfl, HR.out.bad HL.out (fun e => HQ.out (by rw [← mk_data T, HTl.out, e, mk_data])), ⟨none, 0, rfl, Nat.le_refl _, fun h => absurd h (by simp)⟩⟩, HP1.out.bel⟩

end Go.Proofs.YtfohdoahddommaaDoor
