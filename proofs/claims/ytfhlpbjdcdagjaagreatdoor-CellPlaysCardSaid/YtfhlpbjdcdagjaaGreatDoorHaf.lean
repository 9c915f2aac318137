/- Layer 6, vm: take and lay. -/
import Derived.Test.YtfhlpbjdcdagjaaGreatDoorHae
import Derived.Deep.RegionLaw
namespace Go.Proofs.YtfhlpbjdcdagjaaGreatDoor
open Go.RowKit Go.Lib
set_option linter.unusedVariables false
set_option maxRecDepth 100000

section
variable {w w' : World} {B b : Nat} {L : List Value} {vs vo vp : Value} {st out : List (Int × Int)} {s : VmS} {fx : List Nat}

theorem MchV.kept {r : Nat} (h : MchV w B b L vs vo st out) (hg : w.grownBy w' (some r)) (hb : r ≠ b) (h1 : vs.ownBlock ≠ some r) (h2 : vo.ownBlock ≠ some r) : MchV w' B b L vs vo st out := by
  have hbb := hg.block b h.lt (by intro e; injection e with e; exact hb e.symm)
  exact ⟨h.le, h.len, fun k hk => (World.cell?_of_block (a := ⟨b, k, none⟩) hbb).trans (h.cells k hk), fun k => (World.frozen?_of_block (a := ⟨b, k, none⟩) hbb).trans (h.fr k), h.own.kept hg (.inr h1), h.ono.kept hg (.inr h2), h.ne⟩

theorem MchV.new_ne (h : MchV w B b L vs vo st out) {r : Nat} (hr : w.heap.size ≤ r) : r ≠ b ∧ vs.ownBlock ≠ some r ∧ vo.ownBlock ≠ some r := by
  have := h.lt
  refine ⟨by omega, fun e => ?_, fun e => ?_⟩
  · have := (h.own.lt r e).2; omega
  · have := (h.ono.lt r e).2; omega

/-- Blocks that the machine leaves alone. -/
def Frn (w : World) (b : Nat) (vs vo : Value) (fx : List Nat) : Prop := ∀ r ∈ fx, r < w.heap.size ∧ r ≠ b ∧ vs.ownBlock ≠ some r ∧ vo.ownBlock ≠ some r

def Mch2 (w : World) (B b : Nat) (vp : Value) (s : VmS) (fx : List Nat) : Prop := ∃ vs vo, MchV w B b (mcells vp vs vo s) vs vo s.st s.out ∧ Frn w b vs vo fx

/-- What a call makes of the machine: what it leaves alone stays. -/
structure MP (B b : Nat) (vp : Value) (s : VmS) (fx : List Nat) (w w' : World) : Prop where
  m : Mch2 w' B b vp s fx
  keep : ∀ r ∈ fx, w'.heap[r]? = w.heap[r]?
  bel : Below B w w'

theorem Mch2.below (h : Mch2 w B b vp s fx) (hb : Below w.heap.size w w') : MP B b vp s fx w w' := by
  obtain ⟨vs, vo, hv, hf⟩ := h
  have hl := hv.lt
  have hle := hv.le
  refine ⟨⟨vs, vo, hv.below hb, fun r hr => ?_⟩, fun r hr => hb.block r (hf r hr).1, hb.mono (by omega)⟩
  obtain ⟨a, b, c⟩ := hf r hr
  exact ⟨Nat.lt_of_lt_of_le a hb.size, b, c⟩

theorem Mch2.lt2 (h : Mch2 w B b vp s fx) : b < w.heap.size := by obtain ⟨_, _, h, _⟩ := h; exact h.lt

theorem Mch2.le2 (h : Mch2 w B b vp s fx) : B ≤ b := by obtain ⟨_, _, h, _⟩ := h; exact h.le

theorem Mch2.refl (h : Mch2 w B b vp s fx) : MP B b vp s fx w w := ⟨h, fun _ _ => rfl, Below.refl _ _⟩

theorem MP.trans {w'' : World} {s' : VmS} (h : MP B b vp s fx w w') (h' : MP B b vp s' fx w' w'') : MP B b vp s' fx w w'' :=
  ⟨h'.m, fun r hr => (h'.keep r hr).trans (h.keep r hr), h.bel.trans h'.bel⟩

/-- A new block is left alone, too. -/
theorem Mch2.more (h : Mch2 w B b vp s fx) (o : Obj) : Mch2 (w.alloc o) B b vp s (w.heap.size :: fx) := by
  obtain ⟨vs, vo, hv, hf⟩ := h
  refine ⟨vs, vo, hv.below ((Below.refl _ w).alloc (Nat.le_refl _) o), fun r hr => ?_⟩
  rcases List.mem_cons.1 hr with rfl | hr
  · have := hv.new_ne (Nat.le_refl _)
    exact ⟨by rw [World.size_alloc]; omega, this⟩
  · obtain ⟨a, b, c⟩ := hf r hr
    exact ⟨by rw [World.size_alloc]; omega, b, c⟩

theorem MP.less {r : Nat} (h : MP B b vp s (r :: fx) w w') : MP B b vp s fx w w' := by
  obtain ⟨⟨vs, vo, hv, hf⟩, hk, hb⟩ := h
  exact ⟨⟨vs, vo, hv, fun r hr => hf r (List.mem_cons_of_mem _ hr)⟩, fun r hr => hk r (List.mem_cons_of_mem _ hr), hb⟩

theorem MP.cell {r j : Nat} (h : MP B b vp s fx w w') (hr : r ∈ fx) : w'.cell? ⟨r, j, none⟩ = w.cell? ⟨r, j, none⟩ := World.cell?_of_block (a := ⟨r, j, none⟩) (h.keep r hr)

theorem MP.frozen {r j : Nat} (h : MP B b vp s fx w w') (hr : r ∈ fx) : w'.frozen? ⟨r, j, none⟩ = w.frozen? ⟨r, j, none⟩ := World.frozen?_of_block (a := ⟨r, j, none⟩) (h.keep r hr)

end

theorem own_kept7 {w : World} {b j : Nat} {e : TypeId} {v u : Value} {n : Nat} {xs : List Value} (h : w.ownsRow (b + 1) e 2 v n xs) (hb : b < w.heap.size) : (w.setCell ⟨b, j, none⟩ u).ownsRow (b + 1) e 2 v n xs :=
  h.kept (turned_set (turned_refl w (some b)) (.inl rfl) _) (own_ne h (by omega))

theorem _root_.Go.World.grownBy.grown_alloc {w w' : World} {r : Option Nat} (h : w.grownBy w' r) (o : Obj) : w.grownBy (w'.alloc o) r := turned_alloc h o

/-- What take makes: the row is cut; all else stays. -/
structure TakeV (w : World) (B b : Nat) (vp vs vo : Value) (s : VmS) (w' : World) : Prop where
  ex : ∃ vs', vs'.ownBlock = vs.ownBlock ∧ MchV w' B b (mcells vp vs' vo { s with st := cutV s.st 1 }) vs' vo (cutV s.st 1) s.out
  g : w.grownBy w' (some b)

set_option maxHeartbeats 1500000 in
theorem take_v {w : World} {B b : Nat} {vp vs vo : Value} {s : VmS} (hM : MchV w B b (mcells vp vs vo s) vs vo s.st s.out) (h0 : 0 < s.st.length) (h8 : s.st.length ≤ 1000) :
    Calls Tryz.prog 89 #[.pointer (some ⟨b, 0, none⟩)] w fun e w' => e = .returned (val (topV s.st 1).1 (topV s.st 1).2) ∧ TakeV w B b vp vs vo s w' := by
  obtain ⟨k, hk⟩ : ∃ k, s.st.length = k + 1 := ⟨s.st.length - 1, by omega⟩
  obtain ⟨g, cap, rfl, hg1, hg2, hg3, hg4, hg5, hg6⟩ := own_cell hM.own h0
  obtain ⟨i0, i1⟩ := insCells_at s.st k (by omega)
  have c0 := hg5 (k * 2) (by omega)
  have c1 := hg5 (k * 2 + 1) (by omega)
  rw [i0] at c0
  rw [i1] at c1
  have HT : Hid (topV s.st 1 = s.st.getD k (0, 0)) := hid (by unfold topV; rw [hk]; rfl)
  obtain ⟨x, y, hxy⟩ := pair_of (p := s.st.getD k (0, 0))
  rw [hxy] at c0 c1 HT
  simp only at c0 c1
  have HTT : Hid (topV s.st 1 = (x, y)) := HT
  have m7 : w.cell? ⟨b, 7, none⟩ = some (.slice (some ⟨g, 0, none⟩) (k + 1) cap) := by rw [hM.cells 7 (by omega)]; simp [mcells, hk]
  have f7 := hM.fr 7
  have HM := hid hM
  have hlt := hM.lt
  have hkc : k + 1 ≤ cap := by omega
  have hw1 : wrap64 (k : Int) = (k : Int) := by unfold wrap64; omega
  have HK := hid hk
  clear hk hM i0 i1 hg5 hxy HT h0 h8
  go_enter Tryz.func89, Tryz.ntmps89
  go_wp2_with fail
  refine bodyPost_ret (v := val x y) (by simp [results, Tryz.results89, go_sem]) rfl ⟨by rw [HTT.out], ?_, ?_⟩
  · have hc : cutV s.st 1 = s.st.take k := by unfold cutV; rw [HK.out]; rfl
    have hl : (s.st.take k).length = k := by rw [List.length_take, HK.out]; omega
    have hM := HM.out
    have ho := own_cut hM.own k (by rw [HK.out]; omega)
    rw [HK.out] at hM
    have hS := ((hM.set 7 (by omega) (.slice (some ⟨g, 0, none⟩) k cap)).stack (vs' := .slice (some ⟨g, 0, none⟩) k cap) (st' := s.st.take k) (own_kept7 ho (by have := hM.own.lt g rfl; omega)) hM.ne)
    exact ⟨.slice (some ⟨g, 0, none⟩) k cap, rfl, by rw [hc]; exact (hS.below ((Below.refl _ _).alloc (Nat.le_refl _) _)).below ((Below.refl _ _).alloc (Nat.le_refl _) _)⟩
  · exact ((turned_set (turned_refl w (some b)) (.inl rfl) _).grown_alloc _).grown_alloc _

theorem valInfo : (Tryz.prog.info? 31).map (fun i => (i.zero, i.size, i.bytes)) = some (some (.agg #[.int .i64 0, .int .i64 0]), 2, 16) := by kernel_rfl

/-- What lay makes: the row may lie in a new block; all else stays. -/
structure LayV (w : World) (B b : Nat) (vp vs vo : Value) (s : VmS) (q : List (Int × Int)) (w' : World) : Prop where
  ex : ∃ vs', (vs'.ownBlock = vs.ownBlock ∨ ∀ k, vs'.ownBlock = some k → w.heap.size ≤ k) ∧ MchV w' B b (mcells vp vs' vo { s with st := s.st ++ q }) vs' vo (s.st ++ q) s.out
  oth : ∀ k, k < w.heap.size → k ≠ b → some k ≠ vs.ownBlock → w'.heap[k]? = w.heap[k]?
  bel : Below B w w'

set_option maxHeartbeats 1500000 in
theorem lay_v {w : World} {B b : Nat} {vp vs vo : Value} {s : VmS} {g c : Nat} {q : List (Int × Int)} (hM : MchV w B b (mcells vp vs vo s) vs vo s.st s.out) (hv : SlV w w.heap.size (.slice (some ⟨g, 0, none⟩) q.length c) q) (hc : c ≤ 1000) (h8 : s.st.length + q.length ≤ 1000) :
    Calls Tryz.prog 114 #[.pointer (some ⟨b, 0, none⟩), .slice (some ⟨g, 0, none⟩) q.length c] w fun e w' => e = .returned (.tuple #[]) ∧ LayV w B b vp vs vo s q w' := by
  obtain ⟨A, cs, rfl⟩ := own_form hM.own
  have m7 : w.cell? ⟨b, 7, none⟩ = some (.slice A s.st.length cs) := by rw [hM.cells 7 (by omega)]; simp [mcells]
  have f7 := hM.fr 7
  have HM := hid hM
  have hlt := hM.lt
  have HC : Hid (∀ j u, (insCells q)[j]? = some u → w.cell? ((⟨g, 0, none⟩ : Addr).add j) = some u) := hid (hv.cells _ rfl)
  obtain ⟨i0, hi, hz0, hz1, hz2⟩ := info_parts valInfo
  obtain ⟨n, hn⟩ : ∃ n, s.st.length = n := ⟨_, rfl⟩
  obtain ⟨m, hm⟩ : ∃ m, q.length = m := ⟨_, rfl⟩
  rw [hn] at m7 h8
  rw [hm] at h8 ⊢
  have HN := hid hn; have HMM := hid hm
  have HO : Hid (w.ownsRow (b + 1) 31 2 (.slice A n cs) n (insCells s.st)) := hid (by have := hM.own; rw [hn] at this; exact this)
  clear hn hm hM hv
  go_enter Tryz.func114, Tryz.ntmps114
  go_wp2_with (at_builtin; refine wpList_append_blk rfl _ _ 77 rfl (b + 1) 31 i0 (.agg #[.int .i64 0, .int .i64 0]) 2 16 Tryz.underlying77 hi hz0 hz1 hz2 rfl (by decide) (.slice A n cs) n (insCells s.st) rfl HO.out ⟨g, 0, none⟩ m c (insCells q) rfl (by rw [insCells_len, HMM.out]) HC.out (insCells_one q) (by unfold maxLen; omega) (by omega) hlt ?_; intro v' w5 hown5 hg5 hb5; obtain ⟨A', c', rfl⟩ := own_form hown5; have HM5 := hid (HM.out.app (v' := .slice A' (n + m) c') (q := q) (by rw [HN.out, HMM.out]; exact hown5) (by rw [HN.out]; exact hg5) (by rw [HN.out]; exact hb5)); have m75 : w5.cell? ⟨b, 7, none⟩ = some (.slice A n cs) := (by rw [HM5.out.1.cells 7 (by omega), ← HN.out]; rfl); have f75 := HM5.out.1.fr 7; have HG5 := hid hg5; have HB5 := hid hb5; have HO5 := hid hown5; clear hown5 hg5 hb5)
  go_end0
  have hL := (HM5.out.1.set 7 (by omega) (.slice A' (n + m) c'))
  refine ⟨rfl, ⟨.slice A' (n + m) c', by rw [HN.out]; exact HB5.out, hL⟩, fun k hk hkb hkv => ?_, HM5.out.2.setCell HM5.out.1.le _⟩
  rw [Below.heap_setCell _ _ _ _ hkb]
  exact HG5.out.block k hk (by rw [HN.out] at hkv; exact hkv)

section
variable {w : World} {B b : Nat} {vp : Value} {s : VmS} {fx : List Nat}

theorem take_mp (h : Mch2 w B b vp s fx) (h0 : 0 < s.st.length) (h8 : s.st.length ≤ 1000) :
    Calls Tryz.prog 89 #[.pointer (some ⟨b, 0, none⟩)] w fun e w' => e = .returned (val (topV s.st 1).1 (topV s.st 1).2) ∧ MP B b vp { s with st := cutV s.st 1 } fx w w' := by
  obtain ⟨vs, vo, hv, hf⟩ := h
  refine (take_v hv h0 h8).mono ?_
  rintro e w' ⟨rfl, ⟨vs', hb', hm'⟩, hg⟩
  refine ⟨rfl, ⟨vs', vo, hm', fun r hr => ?_⟩, fun r hr => ?_, (Below.refl B w).grown hg (Nat.le_trans hv.le (Nat.le_of_lt hv.lt)) (fun k hk => by injection hk with hk; rw [← hk]; exact hv.le)⟩
  · obtain ⟨a, c, d, e⟩ := hf r hr
    exact ⟨Nat.lt_of_lt_of_le a hg.size, c, by rw [hb']; exact d, e⟩
  · obtain ⟨a, c, d, e⟩ := hf r hr
    exact hg.block r a (by intro q; injection q with q; exact c q)

theorem lay_mp {g c : Nat} {q : List (Int × Int)} (h : Mch2 w B b vp s fx) (hv : SlV w w.heap.size (.slice (some ⟨g, 0, none⟩) q.length c) q) (hc : c ≤ 1000) (h8 : s.st.length + q.length ≤ 1000) :
    Calls Tryz.prog 114 #[.pointer (some ⟨b, 0, none⟩), .slice (some ⟨g, 0, none⟩) q.length c] w fun e w' => e = .returned (.tuple #[]) ∧ MP B b vp { s with st := s.st ++ q } fx w w' := by
  obtain ⟨vs, vo, hm, hf⟩ := h
  refine (lay_v hm hv hc h8).mono ?_
  rintro e w' ⟨rfl, ⟨vs', hb', hm'⟩, ho, hbl⟩
  refine ⟨rfl, ⟨vs', vo, hm', fun r hr => ?_⟩, fun r hr => ?_, hbl⟩
  · obtain ⟨a, c, d, e⟩ := hf r hr
    refine ⟨Nat.lt_of_lt_of_le a hbl.size, c, ?_, e⟩
    rcases hb' with hb' | hb'
    · rw [hb']; exact d
    · intro q; have := hb' r q; omega
  · obtain ⟨a, c, d, e⟩ := hf r hr
    exact ho r a c (fun q => d q.symm)

end

end Go.Proofs.YtfhlpbjdcdagjaaGreatDoor

namespace Go.Proofs.YtfhlpbjdcdagjaaGreatDoor
open Go.RowKit Go.Lib
set_option linter.unusedVariables false
set_option maxRecDepth 100000

theorem ret_two {w1 W w : World} (HW : Hid (Below w.heap.size w W)) (hb : Hid (Below W.heap.size W w1)) (u v : Value) : Below w.heap.size w ((w1.setCell ⟨w.heap.size + 1 + 1, 0, none⟩ u).setCell ⟨w.heap.size + 1 + 1, 1, none⟩ v) :=
  ((HW.out.trans (hb.out.mono HW.out.size)).setCell (by simp only; omega) _).setCell (by simp only; omega) _

set_option maxHeartbeats 2000000 in
theorem oftwo_any (o a b c d : Int) (ho : o = 6 ∨ o = 7 ∨ o = 8 ∨ o = 17) (h1 : I64 a ∧ I64 b) (h2 : I64 c ∧ I64 d) (w : World) :
    Calls Tryz.prog 117 #[.int .i64 o, val a b, val c d] w fun e w' => e = .returned (val (twoV o (a, b) (c, d)).1 (twoV o (a, b) (c, d)).2) ∧ Below w.heap.size w w' := by
  obtain ⟨p, q, hpq⟩ := pair_of (p := twoV o (a, b) (c, d))
  rw [hpq]
  have H1 := hid h1; have H2 := hid h2; clear h1 h2
  obtain ⟨W, hW, ⟨k0, k1, k2, k3, k4, k5⟩, ⟨f0, f1⟩, ⟨l0, l1, l2⟩, hd, HW⟩ := cells3 w (.int .i64 a) (.int .i64 b) (.int .i64 c) (.int .i64 d) (.int .i64 0) (.int .i64 0) 31
  rcases ho with rfl | rfl | rfl | rfl
  · have HS : Hid (sumV [(a, b), (c, d)] = (p, q)) := hid (by rw [sum2, ← addV_eq]; exact hpq)
    clear hpq
    go_enter Tryz.func117, Tryz.ntmps117
    go_wp2_with fail
    clear hW
    refine (add_2 (W := W) a b c d p q _ HS H1 H2 _ (hid (Below.refl _ _))).mono ?_
    rintro e w1 ⟨rfl, hb⟩
    obtain ⟨hc, hf⟩ := bcell hb.out
    go_wp2
    refine bodyPost_ret (v := val p q) (by simp [results, Tryz.results117, go_sem, hc, l2, k4, k5]) rfl ⟨rfl, ret_two HW hb _ _⟩
  · have HS : Hid ((into (into a - into c), into (into b - into d)) = (p, q)) := hid hpq
    clear hpq
    go_enter Tryz.func117, Tryz.ntmps117
    go_wp2_with fail
    clear hW
    refine (sub_any a b c d H1.out.1 H1.out.2 H2.out.1 H2.out.2 W).mono ?_
    rintro e w1 ⟨rfl, hb⟩
    obtain ⟨hc, hf⟩ := bcell hb
    have HB := hid hb; clear hb
    have e1 := congrArg Prod.fst HS.out
    have e2 := congrArg Prod.snd HS.out
    simp only at e1 e2
    rw [e1, e2]
    go_wp2
    refine bodyPost_ret (v := val p q) (by simp [results, Tryz.results117, go_sem, hc, l2, k4, k5]) rfl ⟨rfl, ret_two HW HB _ _⟩
  · have HS : Hid (prodV [(a, b), (c, d)] = (p, q)) := hid (by rw [prod2, ← mulV_eq]; exact hpq)
    clear hpq
    go_enter Tryz.func117, Tryz.ntmps117
    go_wp2_with fail
    clear hW
    refine (mul_2 (W := W) a b c d p q _ HS H1 H2 _ (hid (Below.refl _ _))).mono ?_
    rintro e w1 ⟨rfl, hb⟩
    obtain ⟨hc, hf⟩ := bcell hb.out
    go_wp2
    refine bodyPost_ret (v := val p q) (by simp [results, Tryz.results117, go_sem, hc, l2, k4, k5]) rfl ⟨rfl, ret_two HW hb _ _⟩
  · have HS : Hid (lessV (a, b) (c, d) = (p, q)) := hid hpq
    clear hpq
    go_enter Tryz.func117, Tryz.ntmps117
    go_wp2_with fail
    clear hW
    refine (less_any a b c d H1.out.1 H1.out.2 H2.out.1 H2.out.2 W).mono ?_
    rintro e w1 ⟨rfl, hb⟩
    obtain ⟨hc, hf⟩ := bcell hb
    have HB := hid hb; clear hb
    obtain ⟨β, hβ⟩ : ∃ β, decide (into a < into c) = β := ⟨_, rfl⟩
    rw [hβ]
    cases β with
    | true =>
      have e1 : Hid (p = 1 ∧ q = 0) := hid (by have := HS.out; unfold lessV at this; rw [if_pos (of_decide_eq_true hβ)] at this; injection this with h1 h2; exact ⟨h1.symm, h2.symm⟩)
      obtain ⟨rfl, rfl⟩ := e1.out
      clear hβ
      go_wp2_with fail
      refine (of_any 1 0 ⟨by decide, by decide⟩ ⟨by decide, by decide⟩ w1).mono ?_
      rintro e w2 ⟨rfl, hb2⟩
      rw [into_of 1 (by omega) (by omega), into_of 0 (by omega) (by omega)]
      have HB2 : Hid (Below W.heap.size W w2) := hid (HB.out.trans (hb2.mono HB.out.size))
      obtain ⟨hc, hf⟩ := bcell HB2.out
      go_wp2
      refine bodyPost_ret (v := val 1 0) (by simp [results, Tryz.results117, go_sem, hc, l2, k4, k5]) rfl ⟨rfl, ret_two HW HB2 _ _⟩
    | false =>
      have e1 : Hid (p = 0 ∧ q = 0) := hid (by have := HS.out; unfold lessV at this; rw [if_neg (of_decide_eq_false hβ)] at this; injection this with h1 h2; exact ⟨h1.symm, h2.symm⟩)
      obtain ⟨rfl, rfl⟩ := e1.out
      clear hβ
      go_wp2_with fail
      refine (of_any 0 0 ⟨by decide, by decide⟩ ⟨by decide, by decide⟩ w1).mono ?_
      rintro e w2 ⟨rfl, hb2⟩
      rw [into_of 0 (by omega) (by omega)]
      have HB2 : Hid (Below W.heap.size W w2) := hid (HB.out.trans (hb2.mono HB.out.size))
      obtain ⟨hc, hf⟩ := bcell HB2.out
      go_wp2
      refine bodyPost_ret (v := val 0 0) (by simp [results, Tryz.results117, go_sem, hc, l2, k4, k5]) rfl ⟨rfl, ret_two HW HB2 _ _⟩

section
variable {w : World} {B b : Nat} {vp : Value} {s : VmS} {fx : List Nat}

theorem Mch2.alloc (h : Mch2 w B b vp s fx) (o : Obj) : MP B b vp s fx w (w.alloc o) := h.below ((Below.refl _ w).alloc (Nat.le_refl _) o)

/-- One value is laid, two are. -/
theorem lay_one {t : TypeId} (x y : Int) (h : Hid (Mch2 w B b vp s fx)) (h8 : s.st.length ≤ 900) :
    Calls Tryz.prog 114 #[.pointer (some ⟨b, 0, none⟩), .slice (some ⟨w.heap.size, 0, none⟩) 1 1] (w.alloc (.cells #[.int .i64 x, .int .i64 y] t)) fun e w' => e = .returned (.tuple #[]) ∧ MP B b vp { s with st := s.st ++ [(x, y)] } fx w w' := by
  have h1 := h.out.alloc (.cells #[.int .i64 x, .int .i64 y] t)
  refine (lay_mp (q := [(x, y)]) h1.m (SlV.lit1 w x y t) (by omega) (by simp; omega)).mono ?_
  rintro e w' ⟨rfl, h2⟩
  exact ⟨rfl, h1.trans h2⟩

theorem lay_two {t : TypeId} {g : Nat} (x y x' y' : Int) (h : Hid (Mch2 w B b vp s fx)) (h8 : s.st.length ≤ 900) (hg : g = w.heap.size) :
    Calls Tryz.prog 114 #[.pointer (some ⟨b, 0, none⟩), .slice (some ⟨g, 0, none⟩) 2 2] (w.alloc (.cells #[.int .i64 x, .int .i64 y, .int .i64 x', .int .i64 y'] t)) fun e w' => e = .returned (.tuple #[]) ∧ MP B b vp { s with st := s.st ++ [(x, y), (x', y')] } fx w w'   := by
  subst hg
  have h1 := h.out.alloc (.cells #[.int .i64 x, .int .i64 y, .int .i64 x', .int .i64 y'] t)
  refine (lay_mp (q := [(x, y), (x', y')]) h1.m (SlV.lit2 w x y x' y' t) (by omega) (by simp; omega)).mono ?_
  rintro e w' ⟨rfl, h2⟩
  exact ⟨rfl, h1.trans h2⟩

/-- The boxes of do: the machine leaves them alone. -/
theorem box_do (h : Mch2 w B b vp s fx) (o a v1 v2 : Int) (t1 t2 : TypeId) : ∃ W : World, (w.alloc (.cells #[.int .i64 o, .int .i64 a] t1)).alloc (.cells #[.int .i64 v1, .int .i64 v2] t2) = W ∧
    Hid (Mch2 W B b vp s ((w.heap.size + 1) :: w.heap.size :: fx)) ∧
    (W.cell? ⟨w.heap.size, 0, none⟩ = some (.int .i64 o) ∧ W.cell? ⟨w.heap.size, 1, none⟩ = some (.int .i64 a) ∧ W.cell? ⟨w.heap.size + 1, 0, none⟩ = some (.int .i64 v1) ∧ W.cell? ⟨w.heap.size + 1, 1, none⟩ = some (.int .i64 v2)) ∧
    Hid (∀ w' s', MP B b vp s' ((w.heap.size + 1) :: w.heap.size :: fx) W w' → MP B b vp s' fx w w') := by
  have h1 := h.more (.cells #[.int .i64 o, .int .i64 a] t1)
  have h2 := h1.more (.cells #[.int .i64 v1, .int .i64 v2] t2)
  rw [World.size_alloc] at h2
  refine ⟨_, rfl, hid h2, ⟨by simp, by simp, by simp, by simp⟩, hid fun w' s' hm => ?_⟩
  have a1 := h.alloc (.cells #[.int .i64 o, .int .i64 a] t1)
  have a2 := a1.m.alloc (.cells #[.int .i64 v1, .int .i64 v2] t2)
  exact (a1.trans a2).trans hm.less.less

end

theorem top_cut (st : List (Int × Int)) (h : 2 ≤ st.length) : topV (cutV st 1) 1 = topV st 2 ∧ cutV (cutV st 1) 1 = cutV st 2 := by
  unfold topV cutV
  rw [List.length_take, Nat.min_eq_left (by omega), show st.length - 1 - 1 = st.length - 2 by omega, List.take_take, Nat.min_eq_left (by omega)]
  refine ⟨?_, rfl⟩
  rw [List.getD_eq_getElem?_getD, List.getD_eq_getElem?_getD, List.getElem?_take_of_lt (by omega)]

end Go.Proofs.YtfhlpbjdcdagjaaGreatDoor

namespace Go.Proofs.YtfhlpbjdcdagjaaGreatDoor
open Go.RowKit Go.Lib
set_option linter.unusedVariables false
set_option maxRecDepth 100000

section
variable {w : World} {B b : Nat} {vp : Value} {st out : List (Int × Int)} {c0 c1 : Int × Int} {n : Nat} {fx : List Nat}

/-- What do makes. -/
def DoIs (w : World) (B b : Nat) (vp : Value) (fx : List Nat) (s : VmS) (o a v1 v2 : Int) : Prop :=
  Calls Tryz.prog 90 #[.pointer (some ⟨b, 0, none⟩), val o a, val v1 v2] w fun e w' => e = .returned (.tuple #[]) ∧ MP B b vp s fx w w'

set_option maxHeartbeats 600000 in
theorem do_push (h : Mch2 w B b vp ⟨st, out, c0, c1, n⟩ fx) (h8 : st.length ≤ 800) (a v1 v2 : Int) (ha : Hid (-524288 ≤ a ∧ a ≤ 524287)) : DoIs w B b vp fx ⟨st ++ [(a, 0)], out, c0, c1, n⟩ 1 a v1 v2 := by
  unfold DoIs
  have HI : Hid (I64 a) := hid ⟨by have := ha.out; omega, by have := ha.out; omega⟩
  obtain ⟨W, hW, HM, _, HE⟩ := box_do h 1 a v1 v2 88 31
  go_enter Tryz.func90, Tryz.ntmps90
  go_wp2_with fail
  clear hW
  refine (of_any a 0 HI.out ⟨by decide, by decide⟩ W).mono ?_
  rintro e w1 ⟨rfl, hb⟩
  rw [into_of a ha.out.1 ha.out.2, into_of 0 (by omega) (by omega)]
  have HM1 := hid (HM.out.below hb)
  clear hb
  go_wp2_with fail
  refine (lay_one a 0 (hid HM1.out.m) (by simp; omega)).mono ?_
  rintro e w2 ⟨rfl, hm⟩
  have HM2 := hid (HM1.out.trans hm)
  clear hm
  go_wp2_with fail
  go_end0
  exact ⟨rfl, HE.out _ _ HM2.out⟩

set_option maxHeartbeats 600000 in
theorem do_pushi (h : Mch2 w B b vp ⟨st, out, c0, c1, n⟩ fx) (h8 : st.length ≤ 800) (a v1 v2 : Int) (ha : Hid (-524288 ≤ a ∧ a ≤ 524287)) : DoIs w B b vp fx ⟨st ++ [(0, a)], out, c0, c1, n⟩ 2 a v1 v2 := by
  unfold DoIs
  have HI : Hid (I64 a) := hid ⟨by have := ha.out; omega, by have := ha.out; omega⟩
  obtain ⟨W, hW, HM, _, HE⟩ := box_do h 2 a v1 v2 88 31
  go_enter Tryz.func90, Tryz.ntmps90
  go_wp2_with fail
  clear hW
  refine (of_any 0 a ⟨by decide, by decide⟩ HI.out W).mono ?_
  rintro e w1 ⟨rfl, hb⟩
  rw [into_of a ha.out.1 ha.out.2, into_of 0 (by omega) (by omega)]
  have HM1 := hid (HM.out.below hb)
  clear hb
  go_wp2_with fail
  refine (lay_one 0 a (hid HM1.out.m) (by simp; omega)).mono ?_
  rintro e w2 ⟨rfl, hm⟩
  have HM2 := hid (HM1.out.trans hm)
  clear hm
  go_wp2_with fail
  go_end0
  exact ⟨rfl, HE.out _ _ HM2.out⟩

set_option maxHeartbeats 600000 in
theorem do_in (h : Mch2 w B b vp ⟨st, out, c0, c1, n⟩ fx) (h8 : st.length ≤ 800) (a v1 v2 : Int) : DoIs w B b vp fx ⟨st ++ [(v1, v2)], out, c0, c1, n⟩ 3 a v1 v2 := by
  unfold DoIs
  obtain ⟨W, hW, HM, _, HE⟩ := box_do h 3 a v1 v2 88 31
  go_enter Tryz.func90, Tryz.ntmps90
  go_wp2_with fail
  clear hW
  refine (lay_one v1 v2 HM (by simp; omega)).mono ?_
  rintro e w2 ⟨rfl, hm⟩
  have HM2 := hid hm
  clear hm
  go_wp2_with fail
  go_end0
  exact ⟨rfl, HE.out _ _ HM2.out⟩

/-- The top, as letters. -/
theorem take_xy {w : World} (h : Mch2 w B b vp ⟨st, out, c0, c1, n⟩ fx) (h0 : 0 < st.length) (h8 : st.length ≤ 800) {x y : Int} (hx : Hid (topV st 1 = (x, y))) :
    Calls Tryz.prog 89 #[.pointer (some ⟨b, 0, none⟩)] w fun e w' => e = .returned (val x y) ∧ MP B b vp ⟨cutV st 1, out, c0, c1, n⟩ fx w w' :=
  (take_mp h h0 (by simp only; omega)).mono fun e w' ⟨he, hm⟩ => ⟨by rw [he]; simp only; rw [hx.out], hm⟩

set_option maxHeartbeats 600000 in
theorem do_conj (h : Mch2 w B b vp ⟨st, out, c0, c1, n⟩ fx) (h0 : 0 < st.length) (h8 : st.length ≤ 800) (a v1 v2 : Int) (hr : Rgt (topV st 1)) : DoIs w B b vp fx ⟨cutV st 1 ++ [conjV (topV st 1)], out, c0, c1, n⟩ 9 a v1 v2 := by
  unfold DoIs
  obtain ⟨x, y, hxy⟩ := pair_of (p := topV st 1)
  have HX := hid hxy
  have HI := hid hr.i64
  rw [hxy] at HI
  have HC : Hid ((cutV st 1).length ≤ 800) := hid (by unfold cutV; rw [List.length_take]; omega)
  clear hxy hr
  obtain ⟨W, hW, HM, _, HE⟩ := box_do h 9 a v1 v2 88 31
  go_enter Tryz.func90, Tryz.ntmps90
  go_wp2_with fail
  clear hW
  refine (take_xy HM.out h0 h8 HX).mono ?_
  rintro e w1 ⟨rfl, hm⟩
  have HM1 := hid hm
  clear hm
  go_wp2_with fail
  refine (conj_any x y HI.out.1 HI.out.2 w1).mono ?_
  rintro e w2 ⟨rfl, hb⟩
  have HM2 := hid (HM1.out.trans (HM1.out.m.below hb))
  clear hb
  obtain ⟨p, q, hpq⟩ : ∃ p q, conjV (x, y) = (p, q) := ⟨_, _, rfl⟩
  have HP := hid hpq
  have e1 : into x = p := congrArg Prod.fst hpq
  have e2 : into (-into y) = q := congrArg Prod.snd hpq
  rw [e1, e2]
  clear e1 e2 hpq
  go_wp2_with fail
  refine (lay_one p q (hid HM2.out.m) (by have := HC.out; simp only; omega)).mono ?_
  rintro e w3 ⟨rfl, hm⟩
  have HM3 := hid (HM2.out.trans hm)
  clear hm
  go_wp2_with fail
  go_end0
  refine ⟨rfl, HE.out _ _ ?_⟩
  rw [HX.out, HP.out]
  exact HM3.out

set_option maxHeartbeats 600000 in
theorem do_turn (h : Mch2 w B b vp ⟨st, out, c0, c1, n⟩ fx) (h0 : 0 < st.length) (h8 : st.length ≤ 800) (a v1 v2 : Int) (hr : Rgt (topV st 1)) : DoIs w B b vp fx ⟨cutV st 1 ++ [turnV (topV st 1)], out, c0, c1, n⟩ 10 a v1 v2 := by
  unfold DoIs
  obtain ⟨x, y, hxy⟩ := pair_of (p := topV st 1)
  have HX := hid hxy
  have HI := hid hr.i64
  rw [hxy] at HI
  have HC : Hid ((cutV st 1).length ≤ 800) := hid (by unfold cutV; rw [List.length_take]; omega)
  clear hxy hr
  obtain ⟨W, hW, HM, _, HE⟩ := box_do h 10 a v1 v2 88 31
  go_enter Tryz.func90, Tryz.ntmps90
  go_wp2_with fail
  clear hW
  refine (take_xy HM.out h0 h8 HX).mono ?_
  rintro e w1 ⟨rfl, hm⟩
  have HM1 := hid hm
  clear hm
  go_wp2_with fail
  refine (turn_any x y HI.out.1 HI.out.2 w1).mono ?_
  rintro e w2 ⟨rfl, hb⟩
  have HM2 := hid (HM1.out.trans (HM1.out.m.below hb))
  clear hb
  obtain ⟨p, q, hpq⟩ : ∃ p q, turnV (x, y) = (p, q) := ⟨_, _, rfl⟩
  have HP := hid hpq
  have e1 : into (-into y) = p := congrArg Prod.fst hpq
  have e2 : into x = q := congrArg Prod.snd hpq
  rw [e1, e2]
  clear e1 e2 hpq
  go_wp2_with fail
  refine (lay_one p q (hid HM2.out.m) (by have := HC.out; simp only; omega)).mono ?_
  rintro e w3 ⟨rfl, hm⟩
  have HM3 := hid (HM2.out.trans hm)
  clear hm
  go_wp2_with fail
  go_end0
  refine ⟨rfl, HE.out _ _ ?_⟩
  rw [HX.out, HP.out]
  exact HM3.out

set_option maxHeartbeats 600000 in
theorem do_drop (h : Mch2 w B b vp ⟨st, out, c0, c1, n⟩ fx) (h0 : 0 < st.length) (h8 : st.length ≤ 800) (a v1 v2 : Int) : DoIs w B b vp fx ⟨cutV st 1, out, c0, c1, n⟩ 13 a v1 v2 := by
  unfold DoIs
  obtain ⟨x, y, hxy⟩ := pair_of (p := topV st 1)
  have HX := hid hxy
  clear hxy
  obtain ⟨W, hW, HM, _, HE⟩ := box_do h 13 a v1 v2 88 31
  go_enter Tryz.func90, Tryz.ntmps90
  go_wp2_with fail
  clear hW
  refine (take_xy HM.out h0 h8 HX).mono ?_
  rintro e w1 ⟨rfl, hm⟩
  have HM1 := hid hm
  clear hm
  go_wp2_with fail
  go_end0
  exact ⟨rfl, HE.out _ _ HM1.out⟩

set_option maxHeartbeats 600000 in
theorem do_two (o : Int) (ho : o = 6 ∨ o = 7 ∨ o = 8 ∨ o = 17) (h : Mch2 w B b vp ⟨st, out, c0, c1, n⟩ fx) (h0 : 2 ≤ st.length) (h8 : st.length ≤ 800) (a v1 v2 : Int) (hr : Rgt (topV st 1)) (hr2 : Rgt (topV st 2)) :
    DoIs w B b vp fx ⟨cutV st 2 ++ [twoV o (topV st 2) (topV st 1)], out, c0, c1, n⟩ o a v1 v2 := by
  unfold DoIs
  obtain ⟨x, y, hxy⟩ := pair_of (p := topV st 1)
  obtain ⟨x', y', hxy'⟩ := pair_of (p := topV st 2)
  have HX := hid hxy
  have HI := hid hr.i64
  have HI2 := hid hr2.i64
  rw [hxy] at HI
  rw [hxy'] at HI2
  obtain ⟨t1, t2⟩ := top_cut st h0
  have HX2 : Hid (topV (cutV st 1) 1 = (x', y')) := hid (t1.trans hxy')
  have HX2' := hid hxy'
  have HT2 := hid t2
  have hcl : (cutV st 1).length = st.length - 1 := by unfold cutV; rw [List.length_take]; omega
  have HC0 : Hid (0 < (cutV st 1).length) := hid (by omega)
  have HC : Hid ((cutV st 1).length ≤ 800) := hid (by omega)
  have HC2 : Hid ((cutV st 2).length ≤ 800) := hid (by unfold cutV; rw [List.length_take]; omega)
  obtain ⟨p, q, hpq⟩ := pair_of (p := twoV o (x', y') (x, y))
  have HP := hid hpq
  clear hxy hxy' t1 t2 hcl hpq hr hr2
  obtain ⟨W, hW, HM, ⟨k0, k1, k2, k3⟩, HE⟩ := box_do h o a v1 v2 88 31
  have e1 : (o == 1) = false := by rcases ho with rfl | rfl | rfl | rfl <;> rfl
  have e2 : (o == 2) = false := by rcases ho with rfl | rfl | rfl | rfl <;> rfl
  have e3 : (o == 3) = false := by rcases ho with rfl | rfl | rfl | rfl <;> rfl
  have e4 : (o == 4) = false := by rcases ho with rfl | rfl | rfl | rfl <;> rfl
  have e5 : (o == 5) = false := by rcases ho with rfl | rfl | rfl | rfl <;> rfl
  have e9 : (o == 9) = false := by rcases ho with rfl | rfl | rfl | rfl <;> rfl
  have e10 : (o == 10) = false := by rcases ho with rfl | rfl | rfl | rfl <;> rfl
  have e13 : (o == 13) = false := by rcases ho with rfl | rfl | rfl | rfl <;> rfl
  have e14 : (o == 14) = false := by rcases ho with rfl | rfl | rfl | rfl <;> rfl
  have e11 : (o == 11) = false := by rcases ho with rfl | rfl | rfl | rfl <;> rfl
  have e12 : (o == 12) = false := by rcases ho with rfl | rfl | rfl | rfl <;> rfl
  have HO := hid ho
  clear ho
  go_enter Tryz.func90, Tryz.ntmps90
  go_wp2_with fail
  clear hW
  have HK := hid k0
  clear k0 k1 k2 k3
  refine (take_xy HM.out (by omega) h8 HX).mono ?_
  rintro e w1 ⟨rfl, hm⟩
  have HM1 := hid hm
  clear hm
  go_wp2_with fail
  refine (take_xy HM1.out.m HC0.out HC.out HX2).mono ?_
  rintro e w2 ⟨rfl, hm⟩
  have a1 := hm.m.alloc (.cells #[.int .i64 x, .int .i64 y] 31)
  have a2 := a1.m.alloc (.cells #[.int .i64 x', .int .i64 y'] 31)
  have a3 := HM1.out.trans hm
  have a4 := a3.trans a1
  have HM2 := hid (a4.trans a2)
  clear a1 a2 a4
  have k0 : w2.cell? ⟨w.heap.size, 0, none⟩ = some (.int .i64 o) := (a3.cell (by simp)).trans HK.out
  have hlt := World.block_lt_of_cell? w2 _ k0
  clear hm
  rw [HT2.out] at HM2
  go_wp2_with fail
  refine (oftwo_any o x' y' x y HO.out HI2.out HI.out _).mono ?_
  rw [HP.out]
  rintro e w3 ⟨rfl, hb⟩
  have HM3 := hid (HM2.out.trans (HM2.out.m.below hb))
  clear hb
  go_wp2_with fail
  refine (lay_one p q (hid HM3.out.m) (by have := HC2.out; simp only; omega)).mono ?_
  rintro e w4 ⟨rfl, hm⟩
  have HM4 := hid (HM3.out.trans hm)
  clear hm
  go_wp2_with fail
  go_end0
  refine ⟨rfl, HE.out _ _ ?_⟩
  rw [HX.out, HX2'.out, HP.out]
  exact HM4.out

end

end Go.Proofs.YtfhlpbjdcdagjaaGreatDoor

namespace Go.Proofs.YtfhlpbjdcdagjaaGreatDoor
open Go.RowKit Go.Lib
set_option linter.unusedVariables false
set_option maxRecDepth 100000

section
variable {w : World} {B b : Nat} {vp : Value} {st out : List (Int × Int)} {c0 c1 : Int × Int} {n : Nat} {fx : List Nat}

set_option maxHeartbeats 600000 in
theorem do_dup (h : Mch2 w B b vp ⟨st, out, c0, c1, n⟩ fx) (h0 : 0 < st.length) (h8 : st.length ≤ 800) (a v1 v2 : Int) : DoIs w B b vp fx ⟨cutV st 1 ++ [topV st 1, topV st 1], out, c0, c1, n⟩ 11 a v1 v2 := by
  unfold DoIs
  obtain ⟨x, y, hxy⟩ := pair_of (p := topV st 1)
  have HX := hid hxy
  have HC : Hid ((cutV st 1).length ≤ 800) := hid (by unfold cutV; rw [List.length_take]; omega)
  clear hxy
  obtain ⟨W, hW, HM, _, HE⟩ := box_do h 11 a v1 v2 88 31
  go_enter Tryz.func90, Tryz.ntmps90
  go_wp2_with fail
  clear hW
  refine (take_xy HM.out h0 h8 HX).mono ?_
  rintro e w1 ⟨rfl, hm⟩
  have HM1 := hid (hm.trans (hm.m.alloc (.cells #[.int .i64 x, .int .i64 y] 31)))
  clear hm
  go_wp2_with fail
  refine (lay_two (w := w1.alloc (.cells #[.int .i64 x, .int .i64 y] 31)) x y x y (hid HM1.out.m) (by have := HC.out; simp only; omega) (by rw [World.size_alloc])).mono ?_
  rintro e w2 ⟨rfl, hm⟩
  have HM2 := hid (HM1.out.trans hm)
  clear hm
  go_wp2_with fail
  go_end0
  refine ⟨rfl, HE.out _ _ ?_⟩
  rw [HX.out]
  exact HM2.out

set_option maxHeartbeats 600000 in
theorem do_swap (h : Mch2 w B b vp ⟨st, out, c0, c1, n⟩ fx) (h0 : 2 ≤ st.length) (h8 : st.length ≤ 800) (a v1 v2 : Int) : DoIs w B b vp fx ⟨cutV st 2 ++ [topV st 1, topV st 2], out, c0, c1, n⟩ 12 a v1 v2 := by
  unfold DoIs
  obtain ⟨x, y, hxy⟩ := pair_of (p := topV st 1)
  obtain ⟨x', y', hxy'⟩ := pair_of (p := topV st 2)
  have HX := hid hxy
  obtain ⟨t1, t2⟩ := top_cut st h0
  have HX2 : Hid (topV (cutV st 1) 1 = (x', y')) := hid (t1.trans hxy')
  have HX2' := hid hxy'
  have HT2 := hid t2
  have hcl : (cutV st 1).length = st.length - 1 := by unfold cutV; rw [List.length_take]; omega
  have HC0 : Hid (0 < (cutV st 1).length) := hid (by omega)
  have HC : Hid ((cutV st 1).length ≤ 800) := hid (by omega)
  have HC2 : Hid ((cutV st 2).length ≤ 800) := hid (by unfold cutV; rw [List.length_take]; omega)
  clear hxy hxy' t1 t2 hcl
  obtain ⟨W, hW, HM, _, HE⟩ := box_do h 12 a v1 v2 88 31
  go_enter Tryz.func90, Tryz.ntmps90
  go_wp2_with fail
  clear hW
  refine (take_xy HM.out (by omega) h8 HX).mono ?_
  rintro e w1 ⟨rfl, hm⟩
  have HM1 := hid hm
  clear hm
  go_wp2_with fail
  refine (take_xy HM1.out.m HC0.out HC.out HX2).mono ?_
  rintro e w2 ⟨rfl, hm⟩
  have a1 := hm.m.alloc (.cells #[.int .i64 x, .int .i64 y] 31)
  have a2 := a1.m.alloc (.cells #[.int .i64 x', .int .i64 y'] 31)
  have a3 := HM1.out.trans hm
  have a4 := a3.trans a1
  have HM2 := hid (a4.trans a2)
  clear a1 a2 a4
  clear hm
  rw [HT2.out] at HM2
  go_wp2_with fail
  refine (lay_two (w := (w2.alloc (.cells #[.int .i64 x, .int .i64 y] 31)).alloc (.cells #[.int .i64 x', .int .i64 y'] 31)) x y x' y' (hid HM2.out.m) (by have := HC2.out; simp only; omega) (by rw [World.size_alloc, World.size_alloc])).mono ?_
  rintro e w3 ⟨rfl, hm⟩
  have HM3 := hid (HM2.out.trans hm)
  clear hm
  go_wp2_with fail
  go_end0
  refine ⟨rfl, HE.out _ _ ?_⟩
  rw [HX.out, HX2'.out]
  exact HM3.out

end

end Go.Proofs.YtfhlpbjdcdagjaaGreatDoor

namespace Go.Proofs.YtfhlpbjdcdagjaaGreatDoor
open Go.RowKit Go.Lib
set_option linter.unusedVariables false
set_option maxRecDepth 100000

/-- An append as one step of a region that draws its order. -/
theorem step_append_blk {P : Program} {ops : Array Oper} {o : Oper} {a : Act} {w : World} {K : Act → World → Prop} {Q : Exit → Act → World → Prop} {E : Prop} (hgd : o.guard = none) (s x : Operand) (t : TypeId)
    (ho : o.op = .call { callee := .builtin .append, args := #[s, x], argTypes := #[t, t] })
    (base : Nat) (e : TypeId) (i : TypeInfo) (z : Value) (size bytes : Nat) (ht : P.underlying t = some (.slice e)) (hi : P.info? e = some i) (hz : i.zero = some z)
    (hsize : i.size = size) (hby : i.bytes = bytes) (hzs : z.cells.size = size) (hsz : 0 < size)
    (v : Value) (n : Nat) (xs : List Value) (hs : a.eval s = v) (hown : w.ownsRow base e size v n xs)
    (ad : Addr) (m c : Nat) (news : List Value) (hx : a.eval x = .slice (some ad) m c) (hl : news.length = m * size) (hnews : ∀ j u, news[j]? = some u → w.cell? (ad.add j) = some u) (h1 : ∀ u ∈ news, u.oneCell' = true)
    (h63 : n + m ≤ maxLen) (hbytes : (n + m) * bytes ≤ 140737488355328) (hbase : base ≤ w.heap.size)
    (h : ∀ v' w', w'.ownsRow base e size v' (n + m) (xs ++ news) → w.grownBy w' v.ownBlock → (v'.ownBlock = v.ownBlock ∨ ∀ k, v'.ownBlock = some k → w.heap.size ≤ k) → K (a.put o.dst v') w') :
    if Region.wanted o (yielded ops a.tmps) = true then Oper.wp P o a w K Q else E := by
  have hw : Region.wanted o (yielded ops a.tmps) = true := by simp [Region.wanted, hgd]
  rw [if_pos hw]
  obtain ⟨v', w', hr, h2, h3, h4⟩ := run_append_blk (P := P) w base t o.type e i z size bytes ht hi hz hsize hby hzs hsz v n xs hown ad m c news hl hnews h1 h63 hbytes hbase
  unfold Oper.wp execOp
  simp only [ho, resolve, invoke, builtin, Sem.run_bind, Sem.run_pure, Result.andThen_ok, List.map_toArray, List.map_cons, List.map_nil, hs, hx, hr]
  exact h v' w' h2 h3 h4

section
variable {W w : World} {B b : Nat} {vp : Value} {st out : List (Int × Int)} {c0 c1 : Int × Int} {n : Nat} {fx : List Nat}

theorem Mch2.here {s : VmS} (h : Hid (Mch2 W B b vp s fx)) (hb : Hid (Below W.heap.size W w)) : MP B b vp s fx W w := h.out.below hb.out

theorem lay_from {s : VmS} {g : Nat} (x y : Int) (h : Hid (Mch2 W B b vp s fx)) (h8 : s.st.length ≤ 900) (w : World) (hb : Hid (Below W.heap.size W w)) (hs : Hid (SlV w w.heap.size (.slice (some ⟨g, 0, none⟩) 1 1) [(x, y)])) :
    Calls Tryz.prog 114 #[.pointer (some ⟨b, 0, none⟩), .slice (some ⟨g, 0, none⟩) 1 1] w fun e w' => e = .returned (.tuple #[]) ∧ Hid (MP B b vp { s with st := s.st ++ [(x, y)] } fx W w') :=
  (lay_mp (q := [(x, y)]) (Mch2.here h hb).m hs.out (by omega) (by simp; omega)).mono fun e w' ⟨he, hm⟩ => ⟨he, hid ((Mch2.here h hb).trans hm)⟩

theorem lit_drew (w : World) (x y : Int) (t : TypeId) : Hid (Below w.heap.size w (w.alloc (.cells #[.int .i64 x, .int .i64 y] t)).drew) ∧ Hid (SlV (w.alloc (.cells #[.int .i64 x, .int .i64 y] t)).drew (w.alloc (.cells #[.int .i64 x, .int .i64 y] t)).drew.heap.size (.slice (some ⟨w.heap.size, 0, none⟩) 1 1) [(x, y)]) :=
  ⟨hid (((Below.refl _ w).alloc (Nat.le_refl _) _).drew), hid ((SlV.lit1 w x y t).keep fun b o h => rfl)⟩

theorem take_from {x y : Int} (h : Hid (Mch2 W B b vp ⟨st, out, c0, c1, n⟩ fx)) (h0 : 0 < st.length) (h8 : st.length ≤ 800) (hx : Hid (topV st 1 = (x, y))) (w : World) (hb : Hid (Below W.heap.size W w)) :
    Calls Tryz.prog 89 #[.pointer (some ⟨b, 0, none⟩)] w fun e w' => e = .returned (val x y) ∧ Hid (MP B b vp ⟨cutV st 1, out, c0, c1, n⟩ fx W w') :=
  (take_xy (Mch2.here h hb).m h0 h8 hx).mono fun e w' ⟨he, hm⟩ => ⟨he, hid ((Mch2.here h hb).trans hm)⟩

set_option maxHeartbeats 1000000 in
theorem do_load0 (h : Mch2 w B b vp ⟨st, out, c0, c1, n⟩ fx) (h8 : st.length ≤ 800) (v1 v2 : Int) : DoIs w B b vp fx ⟨st ++ [c0], out, c0, c1, n⟩ 4 0 v1 v2 := by
  unfold DoIs
  obtain ⟨W, hW, HM, ⟨k0, k1, k2, k3⟩, HE⟩ := box_do h 4 0 v1 v2 88 31
  obtain ⟨x, y⟩ := c0
  obtain ⟨vs, vo, hV, _⟩ := HM.out
  have m1 : W.cell? ⟨b, 1, none⟩ = some (.int .i64 x) := hV.cells 1 (by omega)
  have m2 : W.cell? ⟨b, 2, none⟩ = some (.int .i64 y) := hV.cells 2 (by omega)
  have hlb := hV.lt
  obtain ⟨hb0, hb1⟩ := lit_drew W x y 31
  clear hV
  go_enter Tryz.func90, Tryz.ntmps90
  go_wp2_with fail
  clear hW
  go_region_law (first | (go_simp; go_at_call 114; ((refine (lay_from (W := W) x y HM (by simp only; omega) _ ?_ ?_).mono ?_); assumption; assumption; rintro e w4 ⟨rfl, HM4⟩)))
  all_goals
    go_wp2_with fail
    go_end0
    exact ⟨rfl, HE.out _ _ HM4.out⟩

set_option maxHeartbeats 1000000 in
theorem do_load1 (h : Mch2 w B b vp ⟨st, out, c0, c1, n⟩ fx) (h8 : st.length ≤ 800) (v1 v2 : Int) : DoIs w B b vp fx ⟨st ++ [c1], out, c0, c1, n⟩ 4 1 v1 v2 := by
  unfold DoIs
  obtain ⟨W, hW, HM, ⟨k0, k1, k2, k3⟩, HE⟩ := box_do h 4 1 v1 v2 88 31
  obtain ⟨x, y⟩ := c1
  obtain ⟨vs, vo, hV, _⟩ := HM.out
  have m1 : W.cell? ⟨b, 3, none⟩ = some (.int .i64 x) := hV.cells 3 (by omega)
  have m2 : W.cell? ⟨b, 4, none⟩ = some (.int .i64 y) := hV.cells 4 (by omega)
  have hlb := hV.lt
  obtain ⟨hb0, hb1⟩ := lit_drew W x y 31
  clear hV
  go_enter Tryz.func90, Tryz.ntmps90
  go_wp2_with fail
  clear hW
  go_region_law (first | (go_simp; go_at_call 114; ((refine (lay_from (W := W) x y HM (by simp only; omega) _ ?_ ?_).mono ?_); assumption; assumption; rintro e w4 ⟨rfl, HM4⟩)))
  all_goals
    go_wp2_with fail
    go_end0
    exact ⟨rfl, HE.out _ _ HM4.out⟩

theorem Mch2.set {s s' : VmS} (h : Mch2 w B b vp s fx) (j : Nat) (hj : j < 8) (u : Value) (h1 : s'.st = s.st) (h2 : s'.out = s.out) (hc : ∀ vs vo, (mcells vp vs vo s).set j u = mcells vp vs vo s') : MP B b vp s' fx w (w.setCell ⟨b, j, none⟩ u) := by
  obtain ⟨vs, vo, hV, hf⟩ := h
  refine ⟨⟨vs, vo, ?_, fun r hr => ?_⟩, fun r hr => ?_, (Below.refl B w).setCell hV.le _⟩
  · rw [h1, h2, ← hc]; exact hV.set j hj u
  · obtain ⟨a, c, d, e⟩ := hf r hr
    exact ⟨by rw [World.size_setCell]; exact a, c, d, e⟩
  · exact Below.heap_setCell _ _ _ _ (hf r hr).2.1

theorem Mch2.put0 (h : Mch2 w B b vp ⟨st, out, c0, c1, n⟩ fx) (x y : Int) : MP B b vp ⟨st, out, (x, y), c1, n⟩ fx w ((w.setCell ⟨b, 1, none⟩ (.int .i64 x)).setCell ⟨b, 2, none⟩ (.int .i64 y)) := by
  have h1 := h.set (s' := ⟨st, out, (x, c0.2), c1, n⟩) 1 (by omega) (.int .i64 x) rfl rfl (fun _ _ => rfl)
  exact h1.trans (h1.m.set (s' := ⟨st, out, (x, y), c1, n⟩) 2 (by omega) (.int .i64 y) rfl rfl (fun _ _ => rfl))

theorem Mch2.put1 (h : Mch2 w B b vp ⟨st, out, c0, c1, n⟩ fx) (x y : Int) : MP B b vp ⟨st, out, c0, (x, y), n⟩ fx w ((w.setCell ⟨b, 3, none⟩ (.int .i64 x)).setCell ⟨b, 4, none⟩ (.int .i64 y)) := by
  have h1 := h.set (s' := ⟨st, out, c0, (x, c1.2), n⟩) 3 (by omega) (.int .i64 x) rfl rfl (fun _ _ => rfl)
  exact h1.trans (h1.m.set (s' := ⟨st, out, c0, (x, y), n⟩) 4 (by omega) (.int .i64 y) rfl rfl (fun _ _ => rfl))

set_option maxHeartbeats 1000000 in
theorem do_store0 (h : Mch2 w B b vp ⟨st, out, c0, c1, n⟩ fx) (h0 : 0 < st.length) (h8 : st.length ≤ 800) (v1 v2 : Int) : DoIs w B b vp fx ⟨cutV st 1, out, topV st 1, c1, n⟩ 5 0 v1 v2 := by
  unfold DoIs
  obtain ⟨x, y, hxy⟩ := pair_of (p := topV st 1)
  have HX := hid hxy
  obtain ⟨W, hW, HM, ⟨k0, k1, k2, k3⟩, HE⟩ := box_do h 5 0 v1 v2 88 31
  have hb0 : Hid (Below W.heap.size W W.drew) := hid (Below.refl _ _).drew
  have K1 := hid k1
  clear hxy
  go_enter Tryz.func90, Tryz.ntmps90
  go_wp2_with fail
  clear hW
  go_region_law (first | (go_simp; go_at_call 89; ((refine (take_from (W := W) HM h0 h8 HX _ ?_).mono ?_); assumption; rintro e w4 ⟨rfl, HM4⟩; have k1 := (HM4.out.cell (r := w.heap.size) (j := 1) (by simp)).trans K1.out; obtain ⟨vs4, vo4, hV4, _⟩ := HM4.out.m; have m1 := (show w4.cell? ⟨b, 1, none⟩ = some (.int .i64 c0.1) from hV4.cells 1 (by omega)); have m2 := (show w4.cell? ⟨b, 2, none⟩ = some (.int .i64 c0.2) from hV4.cells 2 (by omega)); have g1 := hV4.fr 1; have g2 := hV4.fr 2; clear hV4)))
  all_goals
    go_wp2_with fail
    go_end0
    refine ⟨rfl, HE.out _ _ ?_⟩
    rw [HX.out]
    exact HM4.out.trans (HM4.out.m.put0 x y)

set_option maxHeartbeats 1000000 in
theorem do_store1 (h : Mch2 w B b vp ⟨st, out, c0, c1, n⟩ fx) (h0 : 0 < st.length) (h8 : st.length ≤ 800) (v1 v2 : Int) : DoIs w B b vp fx ⟨cutV st 1, out, c0, topV st 1, n⟩ 5 1 v1 v2 := by
  unfold DoIs
  obtain ⟨x, y, hxy⟩ := pair_of (p := topV st 1)
  have HX := hid hxy
  obtain ⟨W, hW, HM, ⟨k0, k1, k2, k3⟩, HE⟩ := box_do h 5 1 v1 v2 88 31
  have hb0 : Hid (Below W.heap.size W W.drew) := hid (Below.refl _ _).drew
  have K1 := hid k1
  clear hxy
  go_enter Tryz.func90, Tryz.ntmps90
  go_wp2_with fail
  clear hW
  go_region_law (first | (go_simp; go_at_call 89; ((refine (take_from (W := W) HM h0 h8 HX _ ?_).mono ?_); assumption; rintro e w4 ⟨rfl, HM4⟩; have k1 := (HM4.out.cell (r := w.heap.size) (j := 1) (by simp)).trans K1.out; obtain ⟨vs4, vo4, hV4, _⟩ := HM4.out.m; have m1 := (show w4.cell? ⟨b, 3, none⟩ = some (.int .i64 c1.1) from hV4.cells 3 (by omega)); have m2 := (show w4.cell? ⟨b, 4, none⟩ = some (.int .i64 c1.2) from hV4.cells 4 (by omega)); have g1 := hV4.fr 3; have g2 := hV4.fr 4; clear hV4)))
  all_goals
    go_wp2_with fail
    go_end0
    refine ⟨rfl, HE.out _ _ ?_⟩
    rw [HX.out]
    exact HM4.out.trans (HM4.out.m.put1 x y)

end

end Go.Proofs.YtfhlpbjdcdagjaaGreatDoor
