/- Layer 7, cell: entries. -/
import Derived.Test.YtfhlpbjdcdagjaaGreatDoorHan
namespace Go.Proofs.YtfhlpbjdcdagjaaGreatDoor
open Go.RowKit Go.Lib Go.MapKept Go.Sort Go.Shelf
set_option linter.unusedVariables false
set_option maxRecDepth 100000

/-- While the map is gone through. -/
structure EnLp (w : World) (r b : Nat) (D : CTab) (es : Array MapEntry) (clk : Nat) (L : List Ent) (S : Int × Int → Bool) (wr : World) (seen : Array Nat) (A : Option Addr) (c : Nat) (L' : List Ent) : Prop where
  itr : wr.heap[r]? = some (.mapIter (some b) clk seen clk)
  tab : TabM wr b D es clk L
  own : wr.ownsRow (r + 1) 37 6 (.slice A L'.length c) L'.length (entCells L')
  gat : Gath S es L seen L'
  bel : Below r w wr

theorem EnLp.up {w wr w' : World} {r b : Nat} {D : CTab} {es : Array MapEntry} {clk : Nat} {L : List Ent} {S : Int × Int → Bool} {seen : Array Nat} {A : Option Addr} {c : Nat} {L' : List Ent} (h : EnLp w r b D es clk L S wr seen A c L') (hb : Below wr.heap.size wr w') : EnLp w r b D es clk L S w' seen A c L' := by
  have hr : r < wr.heap.size := (Array.getElem?_eq_some_iff.1 h.itr).1
  exact ⟨(hb.block r hr).trans h.itr, h.tab.keep (hb.block b h.tab.lt), own_below h.own hb, h.gat, h.bel.trans (hb.mono (Nat.le_of_lt hr))⟩

theorem entInfo : (Tryz.prog.info? 37).map (fun i => (i.zero, i.size, i.bytes)) = some (some (.agg #[.int .i64 0, .int .i64 0, .int .i64 0, .int .i64 0, .int .i64 0, .int .i64 0]), 6, 48) := by kernel_rfl

/-- The boxes of a round. -/
theorem round_boxes (w : World) (n k x y z u : Int) (t1 t2 : TypeId) : ∃ W : World, (w.alloc (.cells #[.int .i64 n, .int .i64 k] t1)).alloc (.cells #[.int .i64 x, .int .i64 y, .int .i64 z, .int .i64 u] t2) = W ∧ Hid (Below w.heap.size w W) ∧ Hid (Bx2 W w.heap.size n k) ∧ Hid (Bx4 W (w.heap.size + 1) x y z u) := by
  obtain ⟨W1, h1, hb1, hx1⟩ := box2 w n k t1
  obtain ⟨W2, h2, hb2, hx2⟩ := box4 W1 x y z u t2
  have hs : W1.heap.size = w.heap.size + 1 := by rw [← h1, World.size_alloc]
  rw [hs] at hx2
  exact ⟨W2, by rw [h1, h2], hid (hb1.out.trans (hb2.out.mono hb1.out.size)), hid (hx1.out.below hb2.out), hx2⟩

theorem new_ent (w : World) (n k a1 a2 a3 a4 : Int) (t : TypeId) : ∀ (j : Nat) (u : Value), (encE ((n, k), ((a1, a2), (a3, a4))))[j]? = some u → (w.alloc (.cells #[.int .i64 n, .int .i64 k, .int .i64 a1, .int .i64 a2, .int .i64 a3, .int .i64 a4] t)).cell? ((⟨w.heap.size, 0, none⟩ : Addr).add j) = some u :=
  fun j u h => new_cells w #[.int .i64 n, .int .i64 k, .int .i64 a1, .int .i64 a2, .int .i64 a3, .int .i64 a4] t j u (by rw [← Array.getElem?_toList]; exact h)

/-- What is told of what is kept. -/
def EntPost (w : World) (L : List Ent) (e : Ending) (w' : World) : Prop :=
  ∃ A c, e = .returned (.slice A L.length c) ∧ w'.ownsRow w.heap.size 37 6 (.slice A L.length c) L.length (entCells L) ∧ Below w.heap.size w w'

set_option maxHeartbeats 1000000 in
/-- The library's sort, at a row of the call's own. -/
theorem sort_any {w : World} {B c : Nat} {A : Option Addr} {D : CTab} {S : Int × Int → Bool} {L : List Ent} (hown : w.ownsRow B 37 6 (.slice A L.length c) L.length (entCells L)) (hl : L.length ≤ 512) (hok : OkT D) (hmem : ∀ x, x ∈ L ↔ D x.1.1 x.1.2 = x.2 ∧ x.2 ≠ z4 ∧ S x.1 = true) (hap : L.Pairwise (fun x y => x.1 ≠ y.1)) :
    Calls Tryz.prog 54 #[.slice A L.length c, .func (.func 55) #[] #[]] w fun e w' => e = .returned (.tuple #[]) ∧ L.length = (ents D S).length ∧ w'.ownsRow B 37 6 (.slice A (ents D S).length c) (ents D S).length (entCells (ents D S)) ∧ (w' = w ∨ ∃ g, B ≤ g ∧ w.grownBy w' (some g)) := by
  by_cases h0 : L.length = 0
  · have hL : L = [] := List.eq_nil_of_length_eq_zero h0
    subst hL
    have he : ents D S = [] := rising_eq (entsTo_sorted D S 512) (by simp) fun x => by rw [hmem x]; exact mem_ents hok
    rw [he]
    have hcon := AnyF.slices_SortFunc_none (P := Tryz.prog) Tryz.sortEnt A c (.func (.func 55) #[] #[]) w
    exact hcon.mono fun e w' ⟨h1, h2⟩ => ⟨h1, rfl, by rw [h2]; exact hown, .inl h2⟩
  · have hg : ∃ g, A = some ⟨g, 0, none⟩ ∧ B ≤ g := by
      rcases hown.2 with ⟨_, hn⟩ | ⟨g, cap, cur, hv, hB, _⟩
      · exact absurd hn h0
      · injection hv with e1
        exact ⟨g, e1, hB⟩
    obtain ⟨g, rfl, hB⟩ := hg
    obtain ⟨hH, hlt⟩ := own_holds hown
    have eg : ∀ args w, (callFunc 55 args).run Tryz.prog w = .ok (.enter 55 args) w := enters_of Tryz.func55 (by kernel_rfl) rfl
    have hcmp : CmpLays Tryz.prog 55 #[] encE 6 cfE g 0 L.toArray.size w := fun _ _ _ _ x y => centry_any x y _
    have hcon := AnyQ.slices_SortFunc (P := Tryz.prog) Tryz.sortEnt 6 Tryz.isAgg37 Tryz.sizeOf37 encE (fun _ => rfl) encE_one cfE swoE 55 #[] g 0 c L.toArray w eg hcmp hH hlt (by simp; omega)
    have hsz : L.toArray.size = L.length := by simp
    rw [hsz] at hcon
    refine Calls.mono hcon fun e w' ⟨h1, d, n, os, hp, hs, hw⟩ => ⟨h1, ?_⟩
    rw [← hsz] at hp hs
    have hd : d.size = L.length := by rw [hp.1]; simp
    have he := sorted_is hok hmem hap hp hs
    obtain ⟨r1, r2⟩ := own_sorted (m := n) (os := os) hown hd
    rw [he] at r1
    rw [hw]
    refine ⟨by rw [← he]; simpa using hd.symm, r1, .inr ⟨g, hB, r2⟩⟩

set_option maxHeartbeats 4000000 in
theorem entries_any (tb : Nat) (m : Option Nat) (D : CTab) (g : Nat) (cb : Array Value) (S : Int × Int → Bool) (w : World) (h : TabAt w tb m D) (eg : ∀ args w, (callFunc g args).run Tryz.prog w = .ok (.enter g args) w)
    (hc : ∀ (W : World) (n k : Int), Below w.heap.size w W → nodeB n = true → keyB k = true → Calls Tryz.prog g (#[plcV (n, k)] ++ cb) W fun e w' => e = .returned (.bool (S (n, k))) ∧ Below W.heap.size W w') :
    Calls Tryz.prog 35 #[tabV tb, .func (.func g) #[] cb] w (EntPost w (ents D S)) := by
  have HC := hid hc
  have HT := hid h
  have hcell := h.cell
  clear hc h
  cases m with
  | none =>
    have HD : Hid (D = noTab) := hid (HT.out.none_ rfl)
    have hrg := run_range_nilMap (P := Tryz.prog) w 70 _ _ Tryz.underlying70
    have hnx : ∀ ty, (Instr.next (.pointer (some ⟨w.heap.size, 0, none⟩)) false ty).run Tryz.prog (w.alloc (.mapIter none 0 #[] 0)) = .ok (.tuple #[.bool false]) (w.alloc (.mapIter none 0 #[] 0)) := fun ty => run_next_nilMap _ ty 0 0 #[]
    go_enter Tryz.func35, Tryz.ntmps35
    go_wp2_with fail
    refine wp_loop_rounds 1 ?_
    rw [rounds_succ]
    go_wp2_with fail
    refine (sort_any (w := w.alloc (.mapIter none 0 #[] 0)) (B := w.heap.size) (D := D) (S := S) (L := []) (A := none) (c := 0) (World.ownsRow_nil _ _ _ _) (by simp) HT.out.ok (fun x => ⟨fun q => absurd q (by simp), fun q => by rw [HD.out] at q; exact absurd q.1.symm q.2.1⟩) (by simp)).mono ?_
    rintro e w1 ⟨rfl, hl, hown, hw⟩
    have HL := hid hl; have HO := hid hown
    have HB : Hid (Below w.heap.size w w1) := hid (by
      have hb := (Below.refl w.heap.size w).alloc (Nat.le_refl _) (.mapIter none 0 #[] 0)
      rcases hw with rfl | ⟨g, hg, hgr⟩
      · exact hb
      · exact hb.grown hgr (by simp) (fun k hk => by injection hk with hk; omega))
    clear hl hown hw hrg hnx hcell
    go_wp2_with fail
    go_ret
    have hl0 : (ents D S).length = 0 := HL.out.symm
    exact ⟨none, 0, by rw [hl0]; rfl, HO.out, HB.out⟩
  | some b =>
    obtain ⟨es, clk, L, hM⟩ := (HT.out.some_ b rfl).2
    have hrg := run_range_map (P := Tryz.prog) w 70 _ _ b es clk Tryz.underlying70 hM.blk
    have HM := hid hM
    clear hM
    go_enter Tryz.func35, Tryz.ntmps35
    go_wp2_with fail
    obtain ⟨r, hr⟩ : ∃ r, w.heap.size = r := ⟨_, rfl⟩
    obtain ⟨W1, hW1⟩ : ∃ W1, w.alloc (.mapIter (some b) clk #[] clk) = W1 := ⟨_, rfl⟩
    have HLP : Hid (EnLp w r b D es clk L S W1 #[] none 0 []) := hid (by
      rw [← hW1, ← hr]
      exact ⟨(Go.MapKept.heap_alloc w _).1, HM.out.keep ((Go.MapKept.heap_alloc w _).2 b HM.out.lt), World.ownsRow_nil _ _ _ _, Gath.start S es L, (Below.refl _ _).alloc (Nat.le_refl _) _⟩)
    have HRR : Hid (w.heap.size = r ∧ b < r) := hid ⟨hr, by rw [← hr]; exact HM.out.lt⟩
    rw [hW1, hr]
    clear hW1 hr hrg hcell
    obtain ⟨i0, hi, hz0, hz1, hz2⟩ := info_parts entInfo
    go_loopw [5] (fun v wr => ∃ (seen : Array Nat) (A : Option Addr) (c : Nat) (L' : List Ent), v = .slice A L'.length c ∧ Hid (EnLp w r b D es clk L S wr seen A c L')) (fun _ wr => (leftOf es (wr.iterSeen r)).size)
    case atStart => exact ⟨#[], none, 0, [], rfl, HLP⟩
    case round =>
      obtain ⟨seen, A, c, L', rfl, HL⟩ := hrel
      have HIT := hid (iterSeen_of HL.out.itr)
      rcases ctab_next (w := w) (B := r) HL.out.tab HL.out.itr (Nat.ne_of_lt HRR.out.2) HL.out.bel (Nat.le_refl _) with ⟨h0, hnx⟩ | ⟨e, x, w2, he, hx, hek, hev, hnx, hen, hit, hM2, hb2, hg2⟩
      · have H0 := hid h0
        clear h0
        have HG := hid (HL.out.gat.done HL.out.tab H0.out)
        go_wp2_with fail
        refine (sort_any (w := wr) (B := r + 1) (D := D) (S := S) (L := L') (A := A) (c := c) HL.out.own (HL.out.gat.len HL.out.tab) HT.out.ok HG.out HL.out.gat.ap).mono ?_
        rintro e w1 ⟨rfl, hl, hown, hw⟩
        have HLL := hid hl; have HO := hid (own_mono hown (Nat.le_succ r))
        have HB : Hid (Below r w w1) := hid (by
          rcases hw with rfl | ⟨g, hg, hgr⟩
          · exact HL.out.bel
          · exact HL.out.bel.grown hgr (Nat.le_of_lt (Array.getElem?_eq_some_iff.1 HL.out.itr).1) (fun k hk => by injection hk with hk; omega))
        clear hl hown hw hnx
        go_wp2_with fail
        go_ret
        exact ⟨A, c, by rw [← HLL.out]; rfl, by rw [HRR.out.1]; exact HO.out, by rw [HRR.out.1]; exact HB.out⟩
      · obtain ⟨hn1, hk1, _⟩ := hM2.place hx
        obtain ⟨n, k, a1, a2, a3, a4, rfl⟩ := ent_of (x := x)
        have hr1 : r < wr.heap.size := (Array.getElem?_eq_some_iff.1 HL.out.itr).1
        have hr2 : r < w2.heap.size := Nat.lt_of_lt_of_le hr1 hg2.size
        have HO2 := hid (HL.out.own.kept hg2 (own_ne HL.out.own (Nat.lt_succ_self r)))
        obtain ⟨W3, hW3, HB3, HX3, HY3⟩ := round_boxes w2 n k a1 a2 a3 a4 76 32
        have HIT3 := hid (((HB3.out).block r hr2).trans hit)
        have HM3 := hid (hM2.keep (HB3.out.block b hM2.lt))
        have HO3 := hid (own_below HO2.out HB3.out)
        have HBW3 := hid (hb2.trans (HB3.out.mono (Nat.le_of_lt hr2)))
        have HNK : Hid (nodeB n = true ∧ keyB k = true) := hid ⟨hn1, hk1⟩
        have HE := hid he
        have HXM := hid hx
        have HKX := hid hek
        have hr3 : r < W3.heap.size := Nat.lt_of_lt_of_le hr2 HB3.out.size
        have HR3 := hid hr3
        have hsz : L'.length ≤ 512 := HL.out.gat.len HL.out.tab
        have hnx' : ∀ ty, (Instr.next (.pointer (some ⟨r, 0, none⟩)) false ty).run Tryz.prog wr = .ok (.tuple #[.bool true, .agg #[.int .i64 n, .int .i64 k], .agg #[.int .i64 a1, .int .i64 a2, .int .i64 a3, .int .i64 a4]]) w2 := fun ty => by rw [hnx ty, hek, hev]
        have hen' : (Instr.entry (.pointer (some ⟨r, 0, none⟩))).run Tryz.prog w2 = .ok (.tuple #[.agg #[.int .i64 n, .int .i64 k], .agg #[.int .i64 a1, .int .i64 a2, .int .i64 a3, .int .i64 a4]]) w2 := by rw [hen, hek, hev]
        clear hnx hen hek hev hit hM2 hb2 hg2 hr1 hr2 hr3 he hx hn1 hk1 HO2
        have ⟨_, z0, z1, _⟩ := HX3.out
        go_wp2_with fail
        clear hnx' hen' hW3 z0 z1
        refine (HC.out W3 n k (by rw [HRR.out.1]; exact HBW3.out) HNK.out.1 HNK.out.2).mono ?_
        rintro e4 w4 ⟨rfl, hb4⟩
        obtain ⟨β, hβ⟩ : ∃ β, S (n, k) = β := ⟨_, rfl⟩
        rw [hβ]
        have HS : Hid (S (n, k) = β) := hid hβ
        have HIT4 := hid ((hb4.block r HR3.out).trans HIT3.out)
        have HM4 := hid (HM3.out.keep (hb4.block b HM3.out.lt))
        have HO4 := hid (own_below HO3.out hb4)
        have HBW4 := hid (HBW3.out.trans (hb4.mono (Nat.le_of_lt HR3.out)))
        have HR4 : Hid (r < w4.heap.size) := hid (Nat.lt_of_lt_of_le HR3.out hb4.size)
        have ⟨lx, p0, p1, _⟩ := HX3.out.below hb4
        have ⟨ly, q0, q1, q2, q3, _⟩ := HY3.out.below hb4
        clear hβ hb4 HX3 HY3 HB3
        cases β with
        | false =>
          go_wp2_with fail
          go_roundw
          case rel => exact ⟨seen.push e.born, A, c, L', rfl, hid ⟨HIT4.out, HM4.out, HO4.out, HL.out.gat.skip HL.out.tab HE.out HXM.out HKX.out HS.out, HBW4.out⟩⟩
          case measure =>
            rw [iterSeen_of HIT4.out, HIT.out]
            exact left_shrinks es seen e HE.out
        | true =>
          have HNC := hid (new_ent w4 n k a1 a2 a3 a4 37)
          have hbs : r + 1 ≤ (w4.alloc (.cells #[.int .i64 n, .int .i64 k, .int .i64 a1, .int .i64 a2, .int .i64 a3, .int .i64 a4] 37)).heap.size := by rw [World.size_alloc]; have := HR4.out; omega
          have HO5 := hid (HO4.out.alloc (.cells #[.int .i64 n, .int .i64 k, .int .i64 a1, .int .i64 a2, .int .i64 a3, .int .i64 a4] 37))
          have hb5 := (Below.refl w4.heap.size w4).alloc (Nat.le_refl _) (.cells #[.int .i64 n, .int .i64 k, .int .i64 a1, .int .i64 a2, .int .i64 a3, .int .i64 a4] 37)
          have HIT5 := hid ((hb5.block r HR4.out).trans HIT4.out)
          have HM5 := hid (HM4.out.keep (hb5.block b HM4.out.lt))
          have HBW5 := hid (HBW4.out.trans (hb5.mono (Nat.le_of_lt HR4.out)))
          clear hb5
          go_wp2_with (at_builtin; refine wpList_append_own _ rfl _ _ 22 rfl (r + 1) 37 i0 (.agg #[.int .i64 0, .int .i64 0, .int .i64 0, .int .i64 0, .int .i64 0, .int .i64 0]) 6 48 Tryz.underlying22 hi hz0 hz1 hz2 rfl (by decide) (.slice A L'.length c) L'.length (entCells L') rfl HO5.out ⟨w4.heap.size, 0, none⟩ 1 1 (encE ((n, k), ((a1, a2), (a3, a4)))) rfl rfl HNC.out (encE_one _) (by unfold maxLen; omega) (by omega) hbs ?_; intro v' w6 hown6 hg6 _; obtain ⟨A6, c6, rfl⟩ := own_form hown6; have HO6 := hid hown6; have HG6 := hid hg6; clear hown6 hg6)
          have hlen : (L' ++ [((n, k), ((a1, a2), (a3, a4)))]).length = L'.length + 1 := by simp
          have hne : ∀ q, q ≤ r → some q ≠ (Value.slice A L'.length c).ownBlock := fun q hq e => by have := (HO5.out.lt _ e.symm).1; omega
          have HIT6 := hid ((HG6.out.block r (by have := hbs; omega) (hne r (Nat.le_refl _))).trans HIT5.out)
          have HM6 := hid (HM5.out.keep (HG6.out.block b HM5.out.lt (hne b (Nat.le_of_lt HRR.out.2))))
          have HBW6 := hid (HBW5.out.grown HG6.out (by have := hbs; omega) (fun q hq => by have := (HO5.out.lt _ hq).1; omega))
          go_roundw
          case rel =>
            refine ⟨seen.push e.born, A6, c6, L' ++ [((n, k), ((a1, a2), (a3, a4)))], by rw [hlen], hid ⟨HIT6.out, HM6.out, ?_, HL.out.gat.take HL.out.tab HE.out HXM.out HKX.out HS.out, HBW6.out⟩⟩
            rw [hlen, entCells_snoc]
            exact HO6.out
          case measure =>
            rw [iterSeen_of HIT6.out, HIT.out]
            exact left_shrinks es seen e HE.out

end Go.Proofs.YtfhlpbjdcdagjaaGreatDoor

namespace Go.Proofs.YtfhlpbjdcdagjaaGreatDoor
open Go.RowKit Go.Lib Go.MapKept
set_option linter.unusedVariables false
set_option maxRecDepth 100000

theorem EntPost.mono {w w1 w' : World} {L : List Ent} {e : Ending} (h : EntPost w1 L e w') (hb : RowKit.Below w.heap.size w w1) : EntPost w L e w' := by
  obtain ⟨A, c, h1, h2, h3⟩ := h
  exact ⟨A, c, h1, own_mono h2 hb.size, hb.trans (h3.mono hb.size)⟩

theorem allc_any (n k : Int) (w : World) : Calls Tryz.prog 37 #[plcV (n, k)] w fun e w' => e = .returned (.bool true) ∧ RowKit.Below w.heap.size w w' := by
  obtain ⟨W, hW, HB, HX⟩ := box2 w n k 76
  go_enter Tryz.func37, Tryz.ntmps37
  go_wp2_with fail
  go_ret
  exact ⟨rfl, HB.out⟩

set_option maxHeartbeats 1000000 in
theorem all_any (tb : Nat) (m : Option Nat) (D : CTab) (w : World) (h : TabAt w tb m D) : Calls Tryz.prog 21 #[tabV tb] w (EntPost w (ents D fun _ => true)) := by
  have eg : ∀ args w, (callFunc 37 args).run Tryz.prog w = .ok (.enter 37 args) w := enters_of Tryz.func37 (by kernel_rfl) rfl
  have hcon := entries_any tb m D 37 #[] (fun _ => true) w h eg (fun W n k _ _ _ => allc_any n k W)
  clear h eg
  generalize ents D (fun _ => true) = L at hcon ⊢
  have HC := hid hcon
  clear hcon
  go_enter Tryz.func21, Tryz.ntmps21
  go_wp2_with fail
  refine HC.out.mono ?_
  rintro e w1 ⟨A, c, rfl, ho, hb⟩
  have HO := hid ho; have HB := hid hb
  clear ho hb
  go_wp2_with fail
  go_ret
  exact ⟨A, c, rfl, HO.out, HB.out⟩

set_option maxHeartbeats 1000000 in
theorem of_any_ (tb : Nat) (m : Option Nat) (D : CTab) (node : Int) (v : Value) (gs : List Int) (hl : gs.length ≤ 1000000000000) (w : World) (h : TabAt w tb m D) (hv : SlI w w.heap.size .i64 v gs) :
    Calls Tryz.prog 19 #[tabV tb, .int .i64 node, v] w (EntPost w (ents D (amongB node gs))) := by
  have HT := hid h; have HV := hid hv; have HL := hid hl
  obtain ⟨A0, c0, rfl, _, _⟩ := hv
  clear h hl
  obtain ⟨L, hL⟩ : ∃ L, ents D (amongB node gs) = L := ⟨_, rfl⟩
  rw [hL]
  have HLL := hid hL
  clear hL
  go_enter Tryz.func19, Tryz.ntmps19
  go_wp2_with fail
  refine (among_any node _ gs HL.out w HV.out).mono ?_
  rintro e w1 ⟨⟨nb, hb, rfl, ha⟩, hb1⟩
  have HA := hid ha; have HB1 := hid hb1
  clear ha hb1
  have eg : ∀ args w, (callFunc 52 args).run Tryz.prog w = .ok (.enter 52 args) w := enters_of Tryz.func52 (by kernel_rfl) rfl
  have hcon := (entries_any tb m D 52 #[.pointer (some ⟨nb, 0, none⟩), .pointer (some ⟨hb, 0, none⟩)] (amongB node gs) w1 (HT.out.below HB1.out) eg (fun W n k hb2 _ hk => amongc_any n k node gs hk nb hb W (HA.out.below hb2))).mono fun e w' hp => hp.mono HB1.out
  clear eg
  rw [HLL.out] at hcon
  have HC := hid hcon
  clear hcon
  go_wp2_with fail
  refine HC.out.mono ?_
  rintro e w2 ⟨A, c, rfl, ho, hb⟩
  have HO := hid ho; have HB := hid hb
  clear ho hb
  go_wp2_with fail
  go_ret
  exact ⟨A, c, rfl, HO.out, HB.out⟩

set_option maxHeartbeats 1000000 in
theorem copy_any (tb : Nat) (m : Option Nat) (D : CTab) (w : World) (h : TabAt w tb m D) :
    Calls Tryz.prog 20 #[tabV tb] w fun e w' => ∃ tb' m', e = .returned (tabV tb') ∧ TabN w.heap.size w' tb' m' D ∧ RowKit.Below w.heap.size w w' := by
  have HT := hid h
  have hcell := h.cell
  clear h
  cases m with
  | none =>
    have hcon := AnyW.maps_Clone_nil (P := Tryz.prog) Tryz.cloneTab w
    have HC : Hid (Calls Tryz.prog 36 #[.map none] w fun e w' => e = .returned (.map none) ∧ w' = w) := hid hcon
    clear hcon
    go_enter Tryz.func20, Tryz.ntmps20
    go_wp2_with fail
    refine HC.out.mono ?_
    rintro e w1 ⟨rfl, rfl⟩
    go_wp2_with fail
    go_ret
    have ht := tab_new w1 72
    rw [← HT.out.none_ rfl] at ht
    exact ⟨w1.heap.size, none, rfl, ht, (Below.refl _ _).alloc (Nat.le_refl _) _⟩
  | some b =>
    obtain ⟨es, clk, L, hM⟩ := (HT.out.some_ b rfl).2
    have hcon := AnyW.maps_Clone (P := Tryz.prog) Tryz.cloneTab b es clk w hM.blk
    have HC : Hid (Calls Tryz.prog 36 #[.map (some b)] w fun e w' => e = .returned (.map (some w.heap.size)) ∧ w' = w.alloc (.map es clk)) := hid hcon
    have HM := hid hM
    clear hcon hM
    go_enter Tryz.func20, Tryz.ntmps20
    go_wp2_with fail
    refine HC.out.mono ?_
    rintro e w1 ⟨rfl, rfl⟩
    go_wp2_with fail
    go_ret
    have hm1 : TabMap (w.alloc (.map es clk)) w.heap.size D := ⟨es, clk, L, (Go.MapKept.heap_alloc w _).1, HM.out.born, HM.out.once, HM.out.l, HM.out.ap, HM.out.mem, HM.out.ok⟩
    have hb2 := (Below.refl (w.alloc (.map es clk)).heap.size (w.alloc (.map es clk))).alloc (Nat.le_refl _) (.cells #[.map (some w.heap.size)] 72)
    have hm2 := hm1.keep (hb2.block w.heap.size (by simp))
    refine ⟨(w.alloc (.map es clk)).heap.size, some w.heap.size, by rw [World.size_alloc]; rfl, ⟨⟨by simp, ⟨_, heap_alloc_new _ _⟩, HM.out.ok, fun e => (by cases e), fun b' e => ?_⟩, by simp, fun b' e => ?_⟩, ((Below.refl _ _).alloc (Nat.le_refl _) _).alloc (by simp) _⟩
    · injection e with e
      subst e
      exact ⟨by simp, hm2⟩
    · injection e with e
      omega

end Go.Proofs.YtfhlpbjdcdagjaaGreatDoor

namespace Go.Proofs.YtfhlpbjdcdagjaaGreatDoor
open Go.RowKit Go.Lib Go.MapKept
open Go.ChangeMaps (setBlock)
set_option linter.unusedVariables false
set_option maxRecDepth 100000

theorem AmongAt.grown {w w' : World} {nb hb : Nat} {node : Int} {gs : List Int} {r : Nat} (h : AmongAt w nb hb node gs) (hg : w.grownBy w' (some r)) (h1 : nb ≠ r) (h2 : hb ≠ r) : AmongAt w' nb hb node gs := by
  have k1 := hg.block nb h.l1 (fun e => h1 (by injection e))
  have k2 := hg.block hb h.l2 (fun e => h2 (by injection e))
  exact ⟨Nat.lt_of_lt_of_le h.l1 hg.size, Nat.lt_of_lt_of_le h.l2 hg.size, (World.cell?_of_block (a := ⟨nb, 0, none⟩) k1).trans h.n, fun j hj => (World.cell?_of_block (a := ⟨hb, j, none⟩) k2).trans (h.g j hj)⟩

theorem rangeLeft_of {w : World} {b r clk since c0 : Nat} {es : Array MapEntry} {seen : Array Nat} {m : Option Nat} (h1 : w.heap[b]? = some (.map es clk)) (h2 : w.heap[r]? = some (.mapIter m since seen c0)) : w.rangeLeft b r = (leftOf es seen).size := by
  unfold World.rangeLeft
  rw [h1, h2]

theorem left_sub {es es' : Array MapEntry} (seen : Array Nat) (h : es'.toList.Sublist es.toList) : (leftOf es' seen).size ≤ (leftOf es seen).size := by
  have e1 : ∀ a : Array MapEntry, (leftOf a seen).size = (a.toList.filter fun e => !seen.contains e.born).length := fun a => by
    unfold leftOf
    rw [← Array.toList_filter, Array.length_toList]
  rw [e1, e1]
  exact (h.filter _).length_le

section
variable {P : Program} {w : World} {ops : Array Oper} {rest : List Oper} {o : Oper} {a : Act} {Q : Exit → Act → World → Prop} {b : Nat} {D : CTab} {es : Array MapEntry} {clk : Nat} {L : List Ent}

theorem wpList_tdel_es (hg : o.guard = none) (m x : Operand) (hop : o.op = Op.call { callee := Callee.builtin Builtin.delete, args := #[m, x], argTypes := #[70, 76] }) (hm : a.eval m = .map (some b)) (h : TabM w b D es clk L) (p : Int × Int) (hx : a.eval x = plcV p) (hw : Wf2 p)
    (hK : ∀ es' L' w', TabM w' b (setT D p.1 p.2 z4) es' clk L' → w.grownBy w' (some b) → (∀ x ∈ es'.toList, x ∈ es.toList ∧ x.key ≠ plcV p) → es'.toList.Sublist es.toList → wpList Tryz.prog ops Q rest (a.put o.dst (.tuple #[])) w') : wpList Tryz.prog ops Q (o :: rest) a w := by
  refine wpList_plain hg fun K' hK' => ?_
  obtain ⟨es', L', hrun, r1, r2, r3, r4⟩ := h.del hw o.type
  unfold Oper.wp
  simp [execOp, hop, resolve, invoke, builtin, hm, hx, hrun, Result.andThen]
  exact hK' _ _ (hK es' L' _ r1 r2 r3 r4)

end

theorem cell_ne_map {w : World} {g j b clk : Nat} {v : Value} {es : Array MapEntry} (h : w.cell? ⟨g, j, none⟩ = some v) (hb : w.heap[b]? = some (.map es clk)) : g ≠ b := by
  rintro rfl
  unfold World.cell? at h
  rw [hb] at h
  simp at h

/-- While what is dropped is dropped. -/
structure DrLp (w : World) (r b nb hb : Nat) (node : Int) (gs : List Int) (D : CTab) (S : Int × Int → Bool) (clk : Nat) (wr : World) (seen : Array Nat) (es : Array MapEntry) (L : List Ent) (Dr : CTab) : Prop where
  itr : wr.heap[r]? = some (.mapIter (some b) clk seen clk)
  tab : TabM wr b Dr es clk L
  am : AmongAt wr nb hb node gs
  or_ : ∀ n k, Dr n k = D n k ∨ (Dr n k = z4 ∧ S (n, k) = true)
  gone : ∀ e ∈ es.toList, seen.contains e.born = true → ∀ p, e.key = plcV p → S p = false
  gr : w.grownBy wr (some b)

theorem DrLp.done {w : World} {r b nb hb : Nat} {node : Int} {gs : List Int} {D : CTab} {S : Int × Int → Bool} {clk : Nat} {wr : World} {seen : Array Nat} {es : Array MapEntry} {L : List Ent} {Dr : CTab} (h : DrLp w r b nb hb node gs D S clk wr seen es L Dr) (h0 : (leftOf es seen).size = 0) : Dr = dropT D S := by
  funext n k
  unfold dropT
  rcases h.or_ n k with e | ⟨e, e2⟩
  · cases hs : S (n, k) with
    | false => rw [if_neg (by simp)]; exact e
    | true =>
      rw [if_pos rfl]
      apply Classical.byContradiction
      intro hz
      have hm : ((n, k), Dr n k) ∈ L := (h.tab.mem _).2 ⟨rfl, hz⟩
      have : encKV ((n, k), Dr n k) ∈ es.toList.map (fun e => (e.key, e.val)) := by rw [h.tab.l]; exact List.mem_map.2 ⟨_, hm, rfl⟩
      obtain ⟨x, hx, e⟩ := List.mem_map.1 this
      unfold encKV at e
      injection e with e1 e2
      have := h.gone x hx (Go.all_seen es seen h0 x hx) (n, k) e1
      rw [hs] at this
      cases this
  · rw [if_pos e2]; exact e

theorem DrLp.skip {w wr w' : World} {r b nb hb : Nat} {node : Int} {gs : List Int} {D : CTab} {S : Int × Int → Bool} {clk : Nat} {seen : Array Nat} {es : Array MapEntry} {L : List Ent} {Dr : CTab} (h : DrLp w r b nb hb node gs D S clk wr seen es L Dr) {e : MapEntry} {p : Int × Int} (he : e ∈ (leftOf es seen).toList) (hk : e.key = plcV p) (hS : S p = false)
    (hit : w'.heap[r]? = some (.mapIter (some b) clk (seen.push e.born) clk)) (hM : TabM w' b Dr es clk L) (ha : AmongAt w' nb hb node gs) (hg : w.grownBy w' (some b)) : DrLp w r b nb hb node gs D S clk w' (seen.push e.born) es L Dr := by
  refine ⟨hit, hM, ha, h.or_, fun e' he' hc q hq => ?_, hg⟩
  rw [contains_pushed, Bool.or_eq_true] at hc
  rcases hc with hc | hc
  · exact h.gone e' he' hc q hq
  · have hb : e'.born = e.born := by simpa using hc
    have : e' = e := Go.born_inj hM.once he' (mem_left he).1 hb
    rw [this, hk] at hq
    rw [← plcV_inj hq]
    exact hS

theorem DrLp.strike {w wr w' : World} {r b nb hb : Nat} {node : Int} {gs : List Int} {D : CTab} {S : Int × Int → Bool} {clk : Nat} {seen : Array Nat} {es es' : Array MapEntry} {L L' : List Ent} {Dr : CTab} (h : DrLp w r b nb hb node gs D S clk wr seen es L Dr) {e : MapEntry} {p : Int × Int} (he : e ∈ (leftOf es seen).toList) (hk : e.key = plcV p) (hS : S p = true)
    (hit : w'.heap[r]? = some (.mapIter (some b) clk (seen.push e.born) clk)) (hM : TabM w' b (setT Dr p.1 p.2 z4) es' clk L') (ha : AmongAt w' nb hb node gs) (hg : w.grownBy w' (some b)) (hes : ∀ x ∈ es'.toList, x ∈ es.toList ∧ x.key ≠ plcV p) : DrLp w r b nb hb node gs D S clk w' (seen.push e.born) es' L' (setT Dr p.1 p.2 z4) := by
  refine ⟨hit, hM, ha, fun n k => ?_, fun e' he' hc q hq => ?_, hg⟩
  · unfold setT
    split
    · rename_i q
      exact .inr ⟨rfl, by rw [q.1, q.2]; exact hS⟩
    · exact h.or_ n k
  · obtain ⟨h1, h2⟩ := hes e' he'
    rw [contains_pushed, Bool.or_eq_true] at hc
    rcases hc with hc | hc
    · exact h.gone e' h1 hc q hq
    · have hb : e'.born = e.born := by simpa using hc
      have : e' = e := Go.born_inj h.tab.once h1 (mem_left he).1 hb
      rw [this] at h2
      exact absurd hk h2

/-- What Drop leaves. -/
def DropPost (w : World) (tb : Nat) (m : Option Nat) (D : CTab) (e : Ending) (w' : World) : Prop :=
  e = .returned (.tuple #[]) ∧ TabAt w' tb m D ∧ w.grownBy w' (some (foot tb m))

theorem dropT_none (S : Int × Int → Bool) : dropT noTab S = noTab := by
  funext n k
  unfold dropT noTab
  split <;> rfl

set_option maxHeartbeats 4000000 in
theorem drop_any (tb : Nat) (m : Option Nat) (D : CTab) (node : Int) (v : Value) (gs : List Int) (hl : gs.length ≤ 1000000000000) (w : World) (h : TabAt w tb m D) (hv : SlI w w.heap.size .i64 v gs) :
    Calls Tryz.prog 15 #[tabV tb, .int .i64 node, v] w (DropPost w tb m (dropT D (amongB node gs))) := by
  have HT := hid h; have HV := hid hv; have HL := hid hl
  obtain ⟨A0, c0, rfl, _, _⟩ := hv
  clear h hl
  go_enter Tryz.func15, Tryz.ntmps15
  go_wp2_with fail
  refine (among_any node _ gs HL.out w HV.out).mono ?_
  rintro e w1 ⟨⟨nb, hb, rfl, ha⟩, hb1⟩
  have HA := hid ha; have HB1 := hid hb1
  have HT1 := hid (HT.out.below hb1)
  have hcell := HT1.out.cell
  clear ha hb1 HV
  cases m with
  | none =>
    have HD : Hid (D = noTab) := hid (HT.out.none_ rfl)
    have hrg := run_range_nilMap (P := Tryz.prog) w1 70 _ _ Tryz.underlying70
    have hnx : ∀ ty, (Instr.next (.pointer (some ⟨w1.heap.size, 0, none⟩)) false ty).run Tryz.prog (w1.alloc (.mapIter none 0 #[] 0)) = .ok (.tuple #[.bool false]) (w1.alloc (.mapIter none 0 #[] 0)) := fun ty => run_next_nilMap _ ty 0 0 #[]
    go_wp2_with fail
    refine wp_loop_rounds 1 ?_
    rw [rounds_succ]
    go_wp2_with fail
    go_end0
    have hbb := HB1.out.alloc HB1.out.size (.mapIter none 0 #[] 0)
    refine ⟨rfl, ?_, turned_below hbb _⟩
    rw [HD.out, dropT_none]
    have := HT.out.below hbb
    rw [HD.out] at this
    exact this
  | some b =>
    obtain ⟨es0, clk, L0, hM⟩ := (HT1.out.some_ b rfl).2
    have hrg := run_range_map (P := Tryz.prog) w1 70 _ _ b es0 clk Tryz.underlying70 hM.blk
    have HM := hid hM
    clear hM
    go_wp2_with fail
    obtain ⟨r, hr⟩ : ∃ r, w1.heap.size = r := ⟨_, rfl⟩
    obtain ⟨W1, hW1⟩ : ∃ W1, w1.alloc (.mapIter (some b) clk #[] clk) = W1 := ⟨_, rfl⟩
    have hbW : Below w1.heap.size w1 W1 := by rw [← hW1]; exact (Below.refl _ _).alloc (Nat.le_refl _) _
    have HLP : Hid (DrLp w r b nb hb node gs D (amongB node gs) clk W1 #[] es0 L0 D) := hid (by
      refine ⟨?_, HM.out.keep (hbW.block b HM.out.lt), HA.out.below hbW, fun n k => .inl rfl, fun e _ hc => absurd hc (by simp), turned_trans (turned_below HB1.out _) ⟨hbW.os, hbW.tape, hbW.output, hbW.size, fun i hi hne => hbW.block i hi⟩⟩
      rw [← hW1, ← hr]
      exact (Go.MapKept.heap_alloc w1 _).1)
    have HRR : Hid (b < w.heap.size ∧ w.heap.size ≤ r ∧ nb < r ∧ hb < r ∧ tb < w.heap.size) := hid ⟨HT.out.mlt b rfl, by rw [← hr]; exact HB1.out.size, by rw [← hr]; exact HA.out.l1, by rw [← hr]; exact HA.out.l2, HT.out.lt⟩
    rw [hW1, hr]
    clear hW1 hr hrg hcell hbW
    go_loopw [7] (fun _ wr => ∃ (seen : Array Nat) (es : Array MapEntry) (L : List Ent) (Dr : CTab), Hid (DrLp w r b nb hb node gs D (amongB node gs) clk wr seen es L Dr)) (fun _ wr => wr.rangeLeft b r)
    case atStart => exact ⟨#[], es0, L0, D, HLP⟩
    case round =>
      obtain ⟨seen, es, L, Dr, HLo⟩ := hrel
      have HIT := hid (rangeLeft_of HLo.out.tab.blk HLo.out.itr)
      rcases ctab_next (w := wr) (B := r) HLo.out.tab HLo.out.itr (by have := HRR.out; omega) (Below.refl r wr) (Nat.le_refl _) with ⟨h0, hnx⟩ | ⟨e, x, w2, he, hx, hek, hev, hnx, hen, hit, hM2, hb2, hg2⟩
      · have H0 := hid h0
        clear h0
        go_wp2_with fail
        go_end0
        refine ⟨rfl, ?_, HLo.out.gr⟩
        rw [← HLo.out.done H0.out]
        exact HT.out.of_map HLo.out.gr ⟨es, clk, L, HLo.out.tab⟩
      · obtain ⟨hn1, hk1, _⟩ := hM2.place hx
        obtain ⟨n, k, a1, a2, a3, a4, rfl⟩ := ent_of (x := x)
        have hr2 : r < w2.heap.size := (Array.getElem?_eq_some_iff.1 hit).1
        obtain ⟨W3, hW3, HB3, HX3⟩ := box2 w2 n k 76
        have HIT3 := hid (((HB3.out).block r hr2).trans hit)
        have HM3 := hid (hM2.keep (HB3.out.block b hM2.lt))
        have HA3 := hid ((HLo.out.am.grown hg2 (by have := HRR.out; omega) (by have := HRR.out; omega)).below HB3.out)
        have HG3 : Hid (w.grownBy W3 (some b)) := hid ((HLo.out.gr.andThen hg2 (fun j hj => by injection hj with hj; subst hj; exact .inl HRR.out.2.1)).andThen (turned_below HB3.out (some b)) (fun j hj => by injection hj with hj; subst hj; exact .inr rfl))
        have HNK : Hid (nodeB n = true ∧ keyB k = true) := hid ⟨hn1, hk1⟩
        have HE := hid he
        have HKX : Hid (e.key = plcV (n, k)) := hid hek
        have ⟨_, z0, z1, _⟩ := HX3.out
        have hnx' : ∀ ty, (Instr.next (.pointer (some ⟨r, 0, none⟩)) false ty).run Tryz.prog wr = .ok (.tuple #[.bool true, .agg #[.int .i64 n, .int .i64 k], .agg #[.int .i64 a1, .int .i64 a2, .int .i64 a3, .int .i64 a4]]) w2 := fun ty => by rw [hnx ty, hek, hev]
        have hen' : (Instr.entry (.pointer (some ⟨r, 0, none⟩))).run Tryz.prog w2 = .ok (.tuple #[.agg #[.int .i64 n, .int .i64 k], .agg #[.int .i64 a1, .int .i64 a2, .int .i64 a3, .int .i64 a4]]) w2 := by rw [hen, hek, hev]
        clear hnx hen hek hev hit hM2 hb2 hg2 he hx hn1 hk1 hr2
        go_wp2_with fail
        clear hnx' hen' hW3 z0 z1
        refine (amongc_any n k node gs HNK.out.2 nb hb W3 HA3.out).mono ?_
        rintro e4 w4 ⟨rfl, hb4⟩
        obtain ⟨β, hβ⟩ : ∃ β, amongB node gs (n, k) = β := ⟨_, rfl⟩
        rw [hβ]
        have HS : Hid (amongB node gs (n, k) = β) := hid hβ
        have HIT4 := hid ((hb4.block r (Array.getElem?_eq_some_iff.1 HIT3.out).1).trans HIT3.out)
        have HM4 := hid (HM3.out.keep (hb4.block b HM3.out.lt))
        have HA4 := hid (HA3.out.below hb4)
        have HG4 : Hid (w.grownBy w4 (some b)) := hid (HG3.out.andThen (turned_below hb4 (some b)) (fun j hj => by injection hj with hj; subst hj; exact .inr rfl))
        have ⟨lx, p0, p1, _⟩ := HX3.out.below hb4
        clear hβ hb4 HX3 HB3
        cases β with
        | false =>
          go_wp2_with fail
          go_roundw
          case rel => exact ⟨seen.push e.born, es, L, Dr, hid (HLo.out.skip HE.out HKX.out HS.out HIT4.out HM4.out HA4.out HG4.out)⟩
          case measure =>
            rw [rangeLeft_of HM4.out.blk HIT4.out, HIT.out]
            exact left_shrinks es seen e HE.out
        | true =>
          have HT4 := hid (HT.out.of_map HG4.out ⟨es, clk, L, HM4.out⟩)
          have hc4 := HT4.out.cell
          go_wp2_with fail
          go_still_tail 5, (by kernel_rfl)
          change wpList _ _ _ _ _ w4.drew
          have HIT5 : Hid (w4.drew.heap[r]? = some (.mapIter (some b) clk (seen.push e.born) clk)) := hid HIT4.out
          have HM5 : Hid (TabM w4.drew b Dr es clk L) := hid (HM4.out.keep rfl)
          have HA5 : Hid (AmongAt w4.drew nb hb node gs) := hid (HA4.out.below (Below.refl _ _).drew)
          have HG5 := hid (turned_drew HG4.out)
          clear hc4 p0 p1 lx
          generalize w4.drew = w5 at HIT5 HM5 HA5 HG5 ⊢
          refine wpList_tdel_es rfl (.tmp 28) (.tmp 29) rfl rfl HM5.out (n, k) rfl (wf_place HNK.out.1 HNK.out.2) ?_
          intro es' L' w6 hM6 hg6 hes hsub
          have HM6 := hid hM6
          have HIT6 : Hid (w6.heap[r]? = some (.mapIter (some b) clk (seen.push e.born) clk)) := hid ((hg6.block r (Array.getElem?_eq_some_iff.1 HIT5.out).1 (fun q => by injection q with q; have := HRR.out; omega)).trans HIT5.out)
          have HA6 := hid (HA5.out.grown hg6 (cell_ne_map HA5.out.n HM5.out.blk) (cell_ne_map (HA5.out.g 0 (by omega)) HM5.out.blk))
          have HG6 : Hid (w.grownBy w6 (some b)) := hid (HG5.out.andThen hg6 (fun j hj => by injection hj with hj; subst hj; exact .inr rfl))
          have HES := hid hes
          have HSUB := hid (left_sub (seen.push e.born) hsub)
          clear hM6 hg6 hes hsub
          go_wp2_with fail
          go_roundw
          case rel => exact ⟨seen.push e.born, es', L', setT Dr n k z4, hid (HLo.out.strike HE.out HKX.out HS.out HIT6.out HM6.out HA6.out HG6.out HES.out)⟩
          case measure =>
            rw [rangeLeft_of HM6.out.blk HIT6.out, HIT.out]
            exact Nat.lt_of_le_of_lt HSUB.out (left_shrinks es seen e HE.out)

end Go.Proofs.YtfhlpbjdcdagjaaGreatDoor

namespace Go.Proofs.YtfhlpbjdcdagjaaGreatDoor
open Go.RowKit
set_option linter.unusedVariables false
set_option maxRecDepth 100000

section
variable {P : Program} {ops : Array Oper} {Q : Exit → Act → World → Prop}

def StepL (P : Program) (ops : Array Oper) (Q : Exit → Act → World → Prop) (R : World → World → Prop) (T : Nat → Value → World → Prop) (G : World → Prop) (J : Array Bool → Act → World → Prop) (i : Nat) (o : Oper) : Prop :=
  GuardIs ops T o true ∧ ∀ (listed : Array Bool) (K : Act → World → Prop) (a : Act) (w : World), (∀ v w', (∀ d, o.dst = some d → T d v w') → G w' → R w w' → J (listed.setIfInBounds i true) (a.put o.dst v) w' → K (a.put o.dst v) w') → Closed ops listed → listed.size = ops.size → listed.getD i false = false → G w → J listed a w → OpAll T a w o.op.operands.toList → Oper.wp P o a w K Q

def StepsL (P : Program) (ops : Array Oper) (Q : Exit → Act → World → Prop) (R : World → World → Prop) (T : Nat → Value → World → Prop) (G : World → Prop) (J : Array Bool → Act → World → Prop) : Nat → List Oper → Prop
  | _, [] => True
  | i, o :: r => StepL P ops Q R T G J i o ∧ StepsL P ops Q R T G J (i + 1) r

theorem StepsL.nil {R : World → World → Prop} {T : Nat → Value → World → Prop} {G : World → Prop} {J : Array Bool → Act → World → Prop} {i : Nat} : StepsL P ops Q R T G J i [] := trivial

theorem StepsL.cons {R : World → World → Prop} {T : Nat → Value → World → Prop} {G : World → Prop} {J : Array Bool → Act → World → Prop} {i : Nat} {o : Oper} {l : List Oper} (h : StepL P ops Q R T G J i o) (hh : StepsL P ops Q R T G J (i + 1) l) : StepsL P ops Q R T G J i (o :: l) := ⟨h, hh⟩

theorem StepsL.at_ {R : World → World → Prop} {T : Nat → Value → World → Prop} {G : World → Prop} {J : Array Bool → Act → World → Prop} : ∀ {l : List Oper} {i : Nat}, StepsL P ops Q R T G J i l → ∀ (j : Nat) (o : Oper), l[j]? = some o → StepL P ops Q R T G J (i + j) o
  | [], _, _, j, o, h => by simp at h
  | x :: l, i, hh, 0, o, h => by
    simp at h
    subst h
    exact hh.1
  | x :: l, i, hh, j + 1, o, h => by
    simp at h
    have := hh.2.at_ j o h
    rw [show i + (j + 1) = i + 1 + j by omega]
    exact this

theorem region_listed {R : World → World → Prop} {T : Nat → Value → World → Prop} {G : World → Prop} {J : Array Bool → Act → World → Prop} {bs : List Nat} {id : Nat} {a0 : Act} {w0 : World} (n : Nat) (hm : P.follows .mixedOrders = true) (hn : a0.tmps.size = n) (hok : regOk ops bs n = true)
    (hT : ∀ k u w w', T k u w → R w w' → T k u w') (hG : G w0.drew) (hJ : J (Array.replicate ops.size false) a0 w0.drew) (hbase : ∀ k ∈ bs, T k (a0.tmps.getD k undef) w0.drew)
    (hs : StepsL P ops Q R T G J 0 ops.toList)
    (hdone : ∀ listed a w, a.defers = a0.defers → a.tmps.size = n → G w → (∀ i, i < ops.size → listed.getD i false = true) → J listed a w → (∀ k ∈ bs, (∀ (j : Nat) (o : Oper), ops[j]? = some o → o.dst ≠ some k) → T k (a.tmps.getD k undef) w) → (∀ k, (ops.any fun o => o.dst == some k) = true → T k (a.tmps.getD k undef) w) → Q .normal a w) :
    (Code.region id ops true).wp P Q a0 w0 := by
  have closing : ∀ (listed : Array Bool) (i : Nat), Closed ops listed → i ∈ Region.ready .any ops listed → Closed ops (listed.setIfInBounds i true) := by
    intro listed i hc hi j o ho hl e he hb
    obtain ⟨o', ho', _, hdep⟩ := ready_of hi
    have h1 : listed.getD e.on false = true := by
      by_cases hij : i = j
      · subst hij
        rw [ho'] at ho; injection ho with ho; subst ho
        exact hdep e he hb
      · rw [Array.getD_eq_getD_getElem?, Array.getElem?_setIfInBounds_ne hij] at hl
        exact hc j o ho (by rw [Array.getD_eq_getD_getElem?]; exact hl) e he hb
    by_cases hie : i = e.on
    · rw [← hie] at h1 ⊢
      rw [Array.getD_eq_getD_getElem?] at h1 ⊢
      by_cases hlt : i < listed.size
      · simp [hlt]
      · simp [hlt] at h1
    · rw [Array.getD_eq_getD_getElem?, Array.getElem?_setIfInBounds_ne hie, ← Array.getD_eq_getD_getElem?]
      exact h1
  refine wp_region_any hm ?_
  show wpAny P .any ops Q ops.size (Array.replicate ops.size false) a0 w0.drew
  refine wpAny_inv hok (fun listed a w => Closed ops listed ∧ RInv ops T G bs a0 listed a w ∧ J listed a w) (fun _ _ _ h => h.2.1.size) ?_ ?_ _ _ _ _ ?_ ⟨?_, ⟨by simp, hG, rfl, rfl, fun k hk _ => hbase k hk, ?_⟩, hJ⟩
  · rintro listed a w i ⟨hcl, hI, hJw⟩ hi
    have hcl' := closing listed i hcl hi
    obtain ⟨o, ho, hl, hdep⟩ := ready_of hi
    obtain ⟨hback, hdst, hlook⟩ := regOk_at hok ho
    have hin : i < ops.size := (Array.getElem?_eq_some_iff.1 ho).1
    have hlf : listed.getD i false = false := by
      rw [Array.getD_eq_getD_getElem?, Array.getElem?_eq_getElem (by rw [hI.size]; exact hin)] at hl ⊢
      simpa using hl
    have hlooks : ∀ k ∈ o.looksAt ops, T k (a.tmps.getD k undef) w := by
      intro k hk
      rcases hlook k hk with ⟨h1, h2⟩ | ⟨j, oj, hj, hd, e, he, hb, rfl⟩
      · exact hI.keep k h1 h2
      · exact hI.val _ oj k hj (hdep e he hb) hd
    have after : ∀ v w', (∀ d, o.dst = some d → T d v w') → G w' → R w w' → RInv ops T G bs a0 (listed.setIfInBounds i true) (a.put o.dst v) w' := by
      intro v w' hv hg hb
      refine ⟨by simpa using hI.size, hg, ?_, ?_, ?_, ?_⟩
      · rw [← hI.defers]; cases o.dst <;> rfl
      · rw [← hI.tsize]; cases o.dst <;> simp [Act.put]
      · intro k hk hw
        rw [getD_put_ne (hw i o ho)]
        exact hT _ _ _ _ (hI.keep k hk hw) hb
      · intro j oj k hj hlj hd
        by_cases hij : i = j
        · subst hij
          rw [ho] at hj
          injection hj with hj
          subst hj
          have hlt := (hdst k hd).1
          rw [hd, getD_put_self (by rw [hI.tsize, hn]; exact hlt)]
          exact hv k hd
        · have hlj' : listed.getD j false = true := by
            rw [Array.getD_eq_getD_getElem?, Array.getElem?_setIfInBounds_ne hij] at hlj
            rw [Array.getD_eq_getD_getElem?]; exact hlj
          have hne : o.dst ≠ some k := by
            intro e
            rcases Nat.lt_or_gt_of_ne hij with h1 | h1
            · exact ((regOk_at hok hj).2.1 k hd).2 i o h1 ho e
            · exact (hdst k e).2 j oj h1 hj hd
          rw [getD_put_ne hne]
          exact hT _ _ _ _ (hI.val j oj k hj hlj' hd) hb
    have hstep := hs.at_ i o (by rw [Array.getElem?_toList]; exact ho)
    rw [Nat.zero_add] at hstep
    unfold wpOp
    simp only [ho]
    have hguard : ∀ k, k ∈ (match o.guard with | some (g, _) => ((ops[g]?).bind (·.dst)).toList | none => []) → T k (a.tmps.getD k undef) w := fun k hk => hlooks k (List.mem_append_right _ hk)
    obtain ⟨h1, h2⟩ := hstep
    rw [wanted_is h1 hguard, if_pos rfl]
    exact .inl (h2 listed _ a w (fun v w' e1 e2 e3 e4 => ⟨hcl', after v w' e1 e2 e3, e4⟩) hcl hI.size hlf hI.good hJw (opAll_of fun k hk => hlooks k (List.mem_append_left _ (List.mem_filterMap.2 ⟨.tmp k, hk, rfl⟩))))
  · rintro listed a w ⟨hcl, hI, hJw⟩ hall
    refine hdone listed a w hI.defers (by rw [hI.tsize, hn]) hI.good hall hJw hI.keep (fun k hk => ?_)
    obtain ⟨o, ho, hd⟩ := Array.any_eq_true'.1 hk
    obtain ⟨j, hj⟩ := Array.getElem?_of_mem ho
    exact hI.val j o k hj (hall j (Array.getElem?_eq_some_iff.1 hj).1) (by simpa using hd)
  · simp
  · intro j o ho hl
    rw [Array.getD_eq_getD_getElem?] at hl
    by_cases h : j < ops.size
    · simp [h] at hl
    · simp [h] at hl
  · intro j o k hj hl
    rw [Array.getD_eq_getD_getElem?] at hl
    by_cases h : j < ops.size
    · simp [h] at hl
    · simp [h] at hl

/-- What is done was done behind what it waits for. -/
theorem Closed.ahead {listed : Array Bool} (h : Closed ops listed) {j i : Nat} (hw : dep ops 1 j i = true) (hl : listed.getD i false = false) : listed.getD j false = false := by
  cases hc : listed.getD j false with
  | false => rfl
  | true =>
    unfold dep at hw
    cases ho : ops[j]? with
    | none => rw [ho] at hw; cases hw
    | some o =>
      rw [ho] at hw
      obtain ⟨e, he, h1⟩ := Array.any_eq_true'.1 hw
      rw [Bool.and_eq_true, Bool.or_eq_true] at h1
      have h2 := h j o ho hc e he h1.1
      rcases h1.2 with h3 | h3
      · rw [← (by simpa using h3 : e.on = i), h2] at hl
        cases hl
      · simp [dep] at h3

end

end Go.Proofs.YtfhlpbjdcdagjaaGreatDoor
