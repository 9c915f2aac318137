/- Layer 6, vm: do, where Go draws the order: LOAD, STORE, EMIT. -/
import Derived.Test.YtfohdoahddommaaDoorVmE
import Derived.Deep.RegionLaw
namespace Go.Proofs.YtfohdoahddommaaDoor
open Go.RowKit Go.Lib
set_option linter.unusedVariables false
set_option maxRecDepth 100000

/-- An append as one step of a region that draws its order. -/
theorem step_append_blk {P : Program} {ops : Array Oper} {o : Oper} {a : Act} {w : World} {K : Act → World → Prop} {Q : Exit → Act → World → Prop} {E : Prop} (hgd : o.guard = none) (s x : Operand) (t : TypeId)
    (ho : o.op = .call { callee := .builtin .append, args := #[s, x], argTypes := #[t, t] })
    (base : Nat) (e : TypeId) (i : TypeInfo) (z : Value) (size bytes : Nat) (ht : P.underlying t = some (.slice e)) (hi : P.info? e = some i) (hz : i.zero = some z)
    (hsize : i.size = size) (hby : i.bytes = bytes) (hzs : z.cells.size = size) (hsz : 0 < size)
    (v : Value) (n : Nat) (xs : List Value) (hs : a.eval s = v) (hown : w.ownsRow base e size v n xs)
    (ad : Addr) (m c : Nat) (news : List Value) (hx : a.eval x = .slice (some ad) m c) (hl : news.length = m * size) (hnews : ∀ j u, news[j]? = some u → w.cell? (ad.add j) = some u) (h1 : ∀ u ∈ news, u.oneCell' = true)
    (h63 : n + m ≤ maxLen) (hbytes : (n + m) * bytes ≤ 140737488355328) (hbase : base ≤ w.heap.size)
    (h : ∀ v' w', w'.ownsRow base e size v' (n + m) (xs ++ news) → w.grownBy w' v.ownBlock → (v'.ownBlock = v.ownBlock ∨ ∀ k, v'.ownBlock = some k → w.heap.size ≤ k) → K (a.put o.dst v') w') :
    if Region.wanted o (yielded ops a.tmps) = true then Oper.wp P o a w K Q else E := by
  have hw : Region.wanted o (yielded ops a.tmps) = true := by simp [Region.wanted, hgd]
  rw [if_pos hw]
  obtain ⟨v', w', hr, h2, h3, h4⟩ := run_append_blk (P := P) w base t o.type e i z size bytes ht hi hz hsize hby hzs hsz v n xs hown ad m c news hl hnews h1 h63 hbytes hbase
  unfold Oper.wp execOp
  simp only [ho, resolve, invoke, builtin, Sem.run_bind, Sem.run_pure, Result.andThen_ok, List.map_toArray, List.map_cons, List.map_nil, hs, hx, hr]
  exact h v' w' h2 h3 h4

section
variable {W w : World} {B b : Nat} {vp : Value} {st out : List (Int × Int)} {c0 c1 : Int × Int} {n : Nat} {fx : List Nat}

theorem Mch2.here {s : VmS} (h : Hid (Mch2 W B b vp s fx)) (hb : Hid (Below W.heap.size W w)) : MP B b vp s fx W w := h.out.below hb.out

theorem lay_from {s : VmS} {g : Nat} (x y : Int) (h : Hid (Mch2 W B b vp s fx)) (h8 : s.st.length ≤ 900) (w : World) (hb : Hid (Below W.heap.size W w)) (hs : Hid (SlV w w.heap.size (.slice (some ⟨g, 0, none⟩) 1 1) [(x, y)])) :
    Calls Tryd.prog 51 #[.pointer (some ⟨b, 0, none⟩), .slice (some ⟨g, 0, none⟩) 1 1] w fun e w' => e = .returned (.tuple #[]) ∧ Hid (MP B b vp { s with st := s.st ++ [(x, y)] } fx W w') :=
  (lay_mp (q := [(x, y)]) (Mch2.here h hb).m hs.out (by omega) (by simp; omega)).mono fun e w' ⟨he, hm⟩ => ⟨he, hid ((Mch2.here h hb).trans hm)⟩

theorem lit_drew (w : World) (x y : Int) (t : TypeId) : Hid (Below w.heap.size w (w.alloc (.cells #[.int .i64 x, .int .i64 y] t)).drew) ∧ Hid (SlV (w.alloc (.cells #[.int .i64 x, .int .i64 y] t)).drew (w.alloc (.cells #[.int .i64 x, .int .i64 y] t)).drew.heap.size (.slice (some ⟨w.heap.size, 0, none⟩) 1 1) [(x, y)]) :=
  ⟨hid (((Below.refl _ w).alloc (Nat.le_refl _) _).drew), hid ((SlV.lit1 w x y t).keep fun b o h => rfl)⟩

theorem take_from {x y : Int} (h : Hid (Mch2 W B b vp ⟨st, out, c0, c1, n⟩ fx)) (h0 : 0 < st.length) (h8 : st.length ≤ 800) (hx : Hid (topV st 1 = (x, y))) (w : World) (hb : Hid (Below W.heap.size W w)) :
    Calls Tryd.prog 36 #[.pointer (some ⟨b, 0, none⟩)] w fun e w' => e = .returned (val x y) ∧ Hid (MP B b vp ⟨cutV st 1, out, c0, c1, n⟩ fx W w') :=
  (take_xy (Mch2.here h hb).m h0 h8 hx).mono fun e w' ⟨he, hm⟩ => ⟨he, hid ((Mch2.here h hb).trans hm)⟩

set_option maxHeartbeats 1000000 in
theorem do_load0 (h : Mch2 w B b vp ⟨st, out, c0, c1, n⟩ fx) (h8 : st.length ≤ 800) (v1 v2 : Int) : DoIs w B b vp fx ⟨st ++ [c0], out, c0, c1, n⟩ 4 0 v1 v2 := by
  unfold DoIs
  obtain ⟨W, hW, HM, ⟨k0, k1, k2, k3⟩, HE⟩ := box_do h 4 0 v1 v2 37 24
  obtain ⟨x, y⟩ := c0
  obtain ⟨vs, vo, hV, _⟩ := HM.out
  have m1 : W.cell? ⟨b, 1, none⟩ = some (.int .i64 x) := hV.cells 1 (by omega)
  have m2 : W.cell? ⟨b, 2, none⟩ = some (.int .i64 y) := hV.cells 2 (by omega)
  have hlb := hV.lt
  obtain ⟨hb0, hb1⟩ := lit_drew W x y 24
  clear hV
  go_enter Tryd.func37, Tryd.ntmps37
  go_wp2_with fail
  clear hW
  go_region_law (first | (go_simp; go_at_call 51; ((refine (lay_from (W := W) x y HM (by simp only; omega) _ ?_ ?_).mono ?_); assumption; assumption; rintro e w4 ⟨rfl, HM4⟩)))
  all_goals
    go_wp2_with fail
    go_end0
    exact ⟨rfl, HE.out _ _ HM4.out⟩

set_option maxHeartbeats 1000000 in
theorem do_load1 (h : Mch2 w B b vp ⟨st, out, c0, c1, n⟩ fx) (h8 : st.length ≤ 800) (v1 v2 : Int) : DoIs w B b vp fx ⟨st ++ [c1], out, c0, c1, n⟩ 4 1 v1 v2 := by
  unfold DoIs
  obtain ⟨W, hW, HM, ⟨k0, k1, k2, k3⟩, HE⟩ := box_do h 4 1 v1 v2 37 24
  obtain ⟨x, y⟩ := c1
  obtain ⟨vs, vo, hV, _⟩ := HM.out
  have m1 : W.cell? ⟨b, 3, none⟩ = some (.int .i64 x) := hV.cells 3 (by omega)
  have m2 : W.cell? ⟨b, 4, none⟩ = some (.int .i64 y) := hV.cells 4 (by omega)
  have hlb := hV.lt
  obtain ⟨hb0, hb1⟩ := lit_drew W x y 24
  clear hV
  go_enter Tryd.func37, Tryd.ntmps37
  go_wp2_with fail
  clear hW
  go_region_law (first | (go_simp; go_at_call 51; ((refine (lay_from (W := W) x y HM (by simp only; omega) _ ?_ ?_).mono ?_); assumption; assumption; rintro e w4 ⟨rfl, HM4⟩)))
  all_goals
    go_wp2_with fail
    go_end0
    exact ⟨rfl, HE.out _ _ HM4.out⟩

theorem Mch2.set {s s' : VmS} (h : Mch2 w B b vp s fx) (j : Nat) (hj : j < 8) (u : Value) (h1 : s'.st = s.st) (h2 : s'.out = s.out) (hc : ∀ vs vo, (mcells vp vs vo s).set j u = mcells vp vs vo s') : MP B b vp s' fx w (w.setCell ⟨b, j, none⟩ u) := by
  obtain ⟨vs, vo, hV, hf⟩ := h
  refine ⟨⟨vs, vo, ?_, fun r hr => ?_⟩, fun r hr => ?_, (Below.refl B w).setCell hV.le _⟩
  · rw [h1, h2, ← hc]; exact hV.set j hj u
  · obtain ⟨a, c, d, e⟩ := hf r hr
    exact ⟨by rw [World.size_setCell]; exact a, c, d, e⟩
  · exact Below.heap_setCell _ _ _ _ (hf r hr).2.1

theorem Mch2.put0 (h : Mch2 w B b vp ⟨st, out, c0, c1, n⟩ fx) (x y : Int) : MP B b vp ⟨st, out, (x, y), c1, n⟩ fx w ((w.setCell ⟨b, 1, none⟩ (.int .i64 x)).setCell ⟨b, 2, none⟩ (.int .i64 y)) := by
  have h1 := h.set (s' := ⟨st, out, (x, c0.2), c1, n⟩) 1 (by omega) (.int .i64 x) rfl rfl (fun _ _ => rfl)
  exact h1.trans (h1.m.set (s' := ⟨st, out, (x, y), c1, n⟩) 2 (by omega) (.int .i64 y) rfl rfl (fun _ _ => rfl))

theorem Mch2.put1 (h : Mch2 w B b vp ⟨st, out, c0, c1, n⟩ fx) (x y : Int) : MP B b vp ⟨st, out, c0, (x, y), n⟩ fx w ((w.setCell ⟨b, 3, none⟩ (.int .i64 x)).setCell ⟨b, 4, none⟩ (.int .i64 y)) := by
  have h1 := h.set (s' := ⟨st, out, c0, (x, c1.2), n⟩) 3 (by omega) (.int .i64 x) rfl rfl (fun _ _ => rfl)
  exact h1.trans (h1.m.set (s' := ⟨st, out, c0, (x, y), n⟩) 4 (by omega) (.int .i64 y) rfl rfl (fun _ _ => rfl))

set_option maxHeartbeats 1000000 in
theorem do_store0 (h : Mch2 w B b vp ⟨st, out, c0, c1, n⟩ fx) (h0 : 0 < st.length) (h8 : st.length ≤ 800) (v1 v2 : Int) : DoIs w B b vp fx ⟨cutV st 1, out, topV st 1, c1, n⟩ 5 0 v1 v2 := by
  unfold DoIs
  obtain ⟨x, y, hxy⟩ := pair_of (p := topV st 1)
  have HX := hid hxy
  obtain ⟨W, hW, HM, ⟨k0, k1, k2, k3⟩, HE⟩ := box_do h 5 0 v1 v2 37 24
  have hb0 : Hid (Below W.heap.size W W.drew) := hid (Below.refl _ _).drew
  have K1 := hid k1
  clear hxy
  go_enter Tryd.func37, Tryd.ntmps37
  go_wp2_with fail
  clear hW
  go_region_law (first | (go_simp; go_at_call 36; ((refine (take_from (W := W) HM h0 h8 HX _ ?_).mono ?_); assumption; rintro e w4 ⟨rfl, HM4⟩; have k1 := (HM4.out.cell (r := w.heap.size) (j := 1) (by simp)).trans K1.out; obtain ⟨vs4, vo4, hV4, _⟩ := HM4.out.m; have m1 := (show w4.cell? ⟨b, 1, none⟩ = some (.int .i64 c0.1) from hV4.cells 1 (by omega)); have m2 := (show w4.cell? ⟨b, 2, none⟩ = some (.int .i64 c0.2) from hV4.cells 2 (by omega)); have g1 := hV4.fr 1; have g2 := hV4.fr 2; clear hV4)))
  all_goals
    go_wp2_with fail
    go_end0
    refine ⟨rfl, HE.out _ _ ?_⟩
    rw [HX.out]
    exact HM4.out.trans (HM4.out.m.put0 x y)

set_option maxHeartbeats 1000000 in
theorem do_store1 (h : Mch2 w B b vp ⟨st, out, c0, c1, n⟩ fx) (h0 : 0 < st.length) (h8 : st.length ≤ 800) (v1 v2 : Int) : DoIs w B b vp fx ⟨cutV st 1, out, c0, topV st 1, n⟩ 5 1 v1 v2 := by
  unfold DoIs
  obtain ⟨x, y, hxy⟩ := pair_of (p := topV st 1)
  have HX := hid hxy
  obtain ⟨W, hW, HM, ⟨k0, k1, k2, k3⟩, HE⟩ := box_do h 5 1 v1 v2 37 24
  have hb0 : Hid (Below W.heap.size W W.drew) := hid (Below.refl _ _).drew
  have K1 := hid k1
  clear hxy
  go_enter Tryd.func37, Tryd.ntmps37
  go_wp2_with fail
  clear hW
  go_region_law (first | (go_simp; go_at_call 36; ((refine (take_from (W := W) HM h0 h8 HX _ ?_).mono ?_); assumption; rintro e w4 ⟨rfl, HM4⟩; have k1 := (HM4.out.cell (r := w.heap.size) (j := 1) (by simp)).trans K1.out; obtain ⟨vs4, vo4, hV4, _⟩ := HM4.out.m; have m1 := (show w4.cell? ⟨b, 3, none⟩ = some (.int .i64 c1.1) from hV4.cells 3 (by omega)); have m2 := (show w4.cell? ⟨b, 4, none⟩ = some (.int .i64 c1.2) from hV4.cells 4 (by omega)); have g1 := hV4.fr 3; have g2 := hV4.fr 4; clear hV4)))
  all_goals
    go_wp2_with fail
    go_end0
    refine ⟨rfl, HE.out _ _ ?_⟩
    rw [HX.out]
    exact HM4.out.trans (HM4.out.m.put1 x y)

end

end Go.Proofs.YtfohdoahddommaaDoor
