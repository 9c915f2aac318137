/- Layer 6, vm: take and lay. -/
import Derived.Test.YtfohdoahddommaaDoorVmA
namespace Go.Proofs.YtfohdoahddommaaDoor
open Go.RowKit Go.Lib
set_option linter.unusedVariables false
set_option maxRecDepth 100000

section
variable {w w' : World} {B b : Nat} {L : List Value} {vs vo vp : Value} {st out : List (Int × Int)} {s : VmS} {fx : List Nat}

theorem MchV.kept {r : Nat} (h : MchV w B b L vs vo st out) (hg : w.grownBy w' (some r)) (hb : r ≠ b) (h1 : vs.ownBlock ≠ some r) (h2 : vo.ownBlock ≠ some r) : MchV w' B b L vs vo st out := by
  have hbb := hg.block b h.lt (by intro e; injection e with e; exact hb e.symm)
  exact ⟨h.le, h.len, fun k hk => (World.cell?_of_block (a := ⟨b, k, none⟩) hbb).trans (h.cells k hk), fun k => (World.frozen?_of_block (a := ⟨b, k, none⟩) hbb).trans (h.fr k), h.own.kept hg (.inr h1), h.ono.kept hg (.inr h2), h.ne⟩

theorem MchV.new_ne (h : MchV w B b L vs vo st out) {r : Nat} (hr : w.heap.size ≤ r) : r ≠ b ∧ vs.ownBlock ≠ some r ∧ vo.ownBlock ≠ some r := by
  have := h.lt
  refine ⟨by omega, fun e => ?_, fun e => ?_⟩
  · have := (h.own.lt r e).2; omega
  · have := (h.ono.lt r e).2; omega

/-- Blocks that the machine leaves alone. -/
def Frn (w : World) (b : Nat) (vs vo : Value) (fx : List Nat) : Prop := ∀ r ∈ fx, r < w.heap.size ∧ r ≠ b ∧ vs.ownBlock ≠ some r ∧ vo.ownBlock ≠ some r

def Mch2 (w : World) (B b : Nat) (vp : Value) (s : VmS) (fx : List Nat) : Prop := ∃ vs vo, MchV w B b (mcells vp vs vo s) vs vo s.st s.out ∧ Frn w b vs vo fx

/-- What a call makes of the machine: what it leaves alone stays. -/
structure MP (B b : Nat) (vp : Value) (s : VmS) (fx : List Nat) (w w' : World) : Prop where
  m : Mch2 w' B b vp s fx
  keep : ∀ r ∈ fx, w'.heap[r]? = w.heap[r]?
  bel : Below B w w'

theorem Mch2.below (h : Mch2 w B b vp s fx) (hb : Below w.heap.size w w') : MP B b vp s fx w w' := by
  obtain ⟨vs, vo, hv, hf⟩ := h
  have hl := hv.lt
  have hle := hv.le
  refine ⟨⟨vs, vo, hv.below hb, fun r hr => ?_⟩, fun r hr => hb.block r (hf r hr).1, hb.mono (by omega)⟩
  obtain ⟨a, b, c⟩ := hf r hr
  exact ⟨Nat.lt_of_lt_of_le a hb.size, b, c⟩

theorem Mch2.lt2 (h : Mch2 w B b vp s fx) : b < w.heap.size := by obtain ⟨_, _, h, _⟩ := h; exact h.lt

theorem Mch2.le2 (h : Mch2 w B b vp s fx) : B ≤ b := by obtain ⟨_, _, h, _⟩ := h; exact h.le

theorem Mch2.refl (h : Mch2 w B b vp s fx) : MP B b vp s fx w w := ⟨h, fun _ _ => rfl, Below.refl _ _⟩

theorem MP.trans {w'' : World} {s' : VmS} (h : MP B b vp s fx w w') (h' : MP B b vp s' fx w' w'') : MP B b vp s' fx w w'' :=
  ⟨h'.m, fun r hr => (h'.keep r hr).trans (h.keep r hr), h.bel.trans h'.bel⟩

/-- A new block is left alone, too. -/
theorem Mch2.more (h : Mch2 w B b vp s fx) (o : Obj) : Mch2 (w.alloc o) B b vp s (w.heap.size :: fx) := by
  obtain ⟨vs, vo, hv, hf⟩ := h
  refine ⟨vs, vo, hv.below ((Below.refl _ w).alloc (Nat.le_refl _) o), fun r hr => ?_⟩
  rcases List.mem_cons.1 hr with rfl | hr
  · have := hv.new_ne (Nat.le_refl _)
    exact ⟨by rw [World.size_alloc]; omega, this⟩
  · obtain ⟨a, b, c⟩ := hf r hr
    exact ⟨by rw [World.size_alloc]; omega, b, c⟩

theorem MP.less {r : Nat} (h : MP B b vp s (r :: fx) w w') : MP B b vp s fx w w' := by
  obtain ⟨⟨vs, vo, hv, hf⟩, hk, hb⟩ := h
  exact ⟨⟨vs, vo, hv, fun r hr => hf r (List.mem_cons_of_mem _ hr)⟩, fun r hr => hk r (List.mem_cons_of_mem _ hr), hb⟩

theorem MP.cell {r j : Nat} (h : MP B b vp s fx w w') (hr : r ∈ fx) : w'.cell? ⟨r, j, none⟩ = w.cell? ⟨r, j, none⟩ := World.cell?_of_block (a := ⟨r, j, none⟩) (h.keep r hr)

theorem MP.frozen {r j : Nat} (h : MP B b vp s fx w w') (hr : r ∈ fx) : w'.frozen? ⟨r, j, none⟩ = w.frozen? ⟨r, j, none⟩ := World.frozen?_of_block (a := ⟨r, j, none⟩) (h.keep r hr)

end

theorem own_kept7 {w : World} {b j : Nat} {e : TypeId} {v u : Value} {n : Nat} {xs : List Value} (h : w.ownsRow (b + 1) e 2 v n xs) (hb : b < w.heap.size) : (w.setCell ⟨b, j, none⟩ u).ownsRow (b + 1) e 2 v n xs :=
  h.kept (turned_set (turned_refl w (some b)) (.inl rfl) _) (own_ne h (by omega))

theorem _root_.Go.World.grownBy.grown_alloc {w w' : World} {r : Option Nat} (h : w.grownBy w' r) (o : Obj) : w.grownBy (w'.alloc o) r := turned_alloc h o

/-- What take makes: the row is cut; all else stays. -/
structure TakeV (w : World) (B b : Nat) (vp vs vo : Value) (s : VmS) (w' : World) : Prop where
  ex : ∃ vs', vs'.ownBlock = vs.ownBlock ∧ MchV w' B b (mcells vp vs' vo { s with st := cutV s.st 1 }) vs' vo (cutV s.st 1) s.out
  g : w.grownBy w' (some b)

set_option maxHeartbeats 1500000 in
theorem take_v {w : World} {B b : Nat} {vp vs vo : Value} {s : VmS} (hM : MchV w B b (mcells vp vs vo s) vs vo s.st s.out) (h0 : 0 < s.st.length) (h8 : s.st.length ≤ 1000) :
    Calls Tryd.prog 36 #[.pointer (some ⟨b, 0, none⟩)] w fun e w' => e = .returned (val (topV s.st 1).1 (topV s.st 1).2) ∧ TakeV w B b vp vs vo s w' := by
  obtain ⟨k, hk⟩ : ∃ k, s.st.length = k + 1 := ⟨s.st.length - 1, by omega⟩
  obtain ⟨g, cap, rfl, hg1, hg2, hg3, hg4, hg5, hg6⟩ := own_cell hM.own h0
  obtain ⟨i0, i1⟩ := insCells_at s.st k (by omega)
  have c0 := hg5 (k * 2) (by omega)
  have c1 := hg5 (k * 2 + 1) (by omega)
  rw [i0] at c0
  rw [i1] at c1
  have HT : Hid (topV s.st 1 = s.st.getD k (0, 0)) := hid (by unfold topV; rw [hk]; rfl)
  obtain ⟨x, y, hxy⟩ := pair_of (p := s.st.getD k (0, 0))
  rw [hxy] at c0 c1 HT
  simp only at c0 c1
  have HTT : Hid (topV s.st 1 = (x, y)) := HT
  have m7 : w.cell? ⟨b, 7, none⟩ = some (.slice (some ⟨g, 0, none⟩) (k + 1) cap) := by rw [hM.cells 7 (by omega)]; simp [mcells, hk]
  have f7 := hM.fr 7
  have HM := hid hM
  have hlt := hM.lt
  have hkc : k + 1 ≤ cap := by omega
  have hw1 : wrap64 (k : Int) = (k : Int) := by unfold wrap64; omega
  have HK := hid hk
  clear hk hM i0 i1 hg5 hxy HT h0 h8
  go_enter Tryd.func36, Tryd.ntmps36
  go_wp2_with fail
  refine bodyPost_ret (v := val x y) (by simp [results, Tryd.results36, go_sem]) rfl ⟨by rw [HTT.out], ?_, ?_⟩
  · have hc : cutV s.st 1 = s.st.take k := by unfold cutV; rw [HK.out]; rfl
    have hl : (s.st.take k).length = k := by rw [List.length_take, HK.out]; omega
    have hM := HM.out
    have ho := own_cut hM.own k (by rw [HK.out]; omega)
    rw [HK.out] at hM
    have hS := ((hM.set 7 (by omega) (.slice (some ⟨g, 0, none⟩) k cap)).stack (vs' := .slice (some ⟨g, 0, none⟩) k cap) (st' := s.st.take k) (own_kept7 ho (by have := hM.own.lt g rfl; omega)) hM.ne)
    exact ⟨.slice (some ⟨g, 0, none⟩) k cap, rfl, by rw [hc]; exact (hS.below ((Below.refl _ _).alloc (Nat.le_refl _) _)).below ((Below.refl _ _).alloc (Nat.le_refl _) _)⟩
  · exact ((turned_set (turned_refl w (some b)) (.inl rfl) _).grown_alloc _).grown_alloc _

theorem valInfo : (Tryd.prog.info? 24).map (fun i => (i.zero, i.size, i.bytes)) = some (some (.agg #[.int .i64 0, .int .i64 0]), 2, 16) := by kernel_rfl

/-- What lay makes: the row may lie in a new block; all else stays. -/
structure LayV (w : World) (B b : Nat) (vp vs vo : Value) (s : VmS) (q : List (Int × Int)) (w' : World) : Prop where
  ex : ∃ vs', (vs'.ownBlock = vs.ownBlock ∨ ∀ k, vs'.ownBlock = some k → w.heap.size ≤ k) ∧ MchV w' B b (mcells vp vs' vo { s with st := s.st ++ q }) vs' vo (s.st ++ q) s.out
  oth : ∀ k, k < w.heap.size → k ≠ b → some k ≠ vs.ownBlock → w'.heap[k]? = w.heap[k]?
  bel : Below B w w'

set_option maxHeartbeats 1500000 in
theorem lay_v {w : World} {B b : Nat} {vp vs vo : Value} {s : VmS} {g c : Nat} {q : List (Int × Int)} (hM : MchV w B b (mcells vp vs vo s) vs vo s.st s.out) (hv : SlV w w.heap.size (.slice (some ⟨g, 0, none⟩) q.length c) q) (hc : c ≤ 1000) (h8 : s.st.length + q.length ≤ 1000) :
    Calls Tryd.prog 51 #[.pointer (some ⟨b, 0, none⟩), .slice (some ⟨g, 0, none⟩) q.length c] w fun e w' => e = .returned (.tuple #[]) ∧ LayV w B b vp vs vo s q w' := by
  obtain ⟨A, cs, rfl⟩ := own_form hM.own
  have m7 : w.cell? ⟨b, 7, none⟩ = some (.slice A s.st.length cs) := by rw [hM.cells 7 (by omega)]; simp [mcells]
  have f7 := hM.fr 7
  have HM := hid hM
  have hlt := hM.lt
  have HC : Hid (∀ j u, (insCells q)[j]? = some u → w.cell? ((⟨g, 0, none⟩ : Addr).add j) = some u) := hid (hv.cells _ rfl)
  obtain ⟨i0, hi, hz0, hz1, hz2⟩ := info_parts valInfo
  obtain ⟨n, hn⟩ : ∃ n, s.st.length = n := ⟨_, rfl⟩
  obtain ⟨m, hm⟩ : ∃ m, q.length = m := ⟨_, rfl⟩
  rw [hn] at m7 h8
  rw [hm] at h8 ⊢
  have HN := hid hn; have HMM := hid hm
  have HO : Hid (w.ownsRow (b + 1) 24 2 (.slice A n cs) n (insCells s.st)) := hid (by have := hM.own; rw [hn] at this; exact this)
  clear hn hm hM hv
  go_enter Tryd.func51, Tryd.ntmps51
  go_wp2_with (at_builtin; refine wpList_append_blk rfl _ _ 26 rfl (b + 1) 24 i0 (.agg #[.int .i64 0, .int .i64 0]) 2 16 Tryd.underlying26 hi hz0 hz1 hz2 rfl (by decide) (.slice A n cs) n (insCells s.st) rfl HO.out ⟨g, 0, none⟩ m c (insCells q) rfl (by rw [insCells_len, HMM.out]) HC.out (insCells_one q) (by unfold maxLen; omega) (by omega) hlt ?_; intro v' w5 hown5 hg5 hb5; obtain ⟨A', c', rfl⟩ := own_form hown5; have HM5 := hid (HM.out.app (v' := .slice A' (n + m) c') (q := q) (by rw [HN.out, HMM.out]; exact hown5) (by rw [HN.out]; exact hg5) (by rw [HN.out]; exact hb5)); have m75 : w5.cell? ⟨b, 7, none⟩ = some (.slice A n cs) := (by rw [HM5.out.1.cells 7 (by omega), ← HN.out]; rfl); have f75 := HM5.out.1.fr 7; have HG5 := hid hg5; have HB5 := hid hb5; have HO5 := hid hown5; clear hown5 hg5 hb5)
  go_end0
  have hL := (HM5.out.1.set 7 (by omega) (.slice A' (n + m) c'))
  refine ⟨rfl, ⟨.slice A' (n + m) c', by rw [HN.out]; exact HB5.out, hL⟩, fun k hk hkb hkv => ?_, HM5.out.2.setCell HM5.out.1.le _⟩
  rw [Below.heap_setCell _ _ _ _ hkb]
  exact HG5.out.block k hk (by rw [HN.out] at hkv; exact hkv)

section
variable {w : World} {B b : Nat} {vp : Value} {s : VmS} {fx : List Nat}

theorem take_mp (h : Mch2 w B b vp s fx) (h0 : 0 < s.st.length) (h8 : s.st.length ≤ 1000) :
    Calls Tryd.prog 36 #[.pointer (some ⟨b, 0, none⟩)] w fun e w' => e = .returned (val (topV s.st 1).1 (topV s.st 1).2) ∧ MP B b vp { s with st := cutV s.st 1 } fx w w' := by
  obtain ⟨vs, vo, hv, hf⟩ := h
  refine (take_v hv h0 h8).mono ?_
  rintro e w' ⟨rfl, ⟨vs', hb', hm'⟩, hg⟩
  refine ⟨rfl, ⟨vs', vo, hm', fun r hr => ?_⟩, fun r hr => ?_, (Below.refl B w).grown hg (Nat.le_trans hv.le (Nat.le_of_lt hv.lt)) (fun k hk => by injection hk with hk; rw [← hk]; exact hv.le)⟩
  · obtain ⟨a, c, d, e⟩ := hf r hr
    exact ⟨Nat.lt_of_lt_of_le a hg.size, c, by rw [hb']; exact d, e⟩
  · obtain ⟨a, c, d, e⟩ := hf r hr
    exact hg.block r a (by intro q; injection q with q; exact c q)

theorem lay_mp {g c : Nat} {q : List (Int × Int)} (h : Mch2 w B b vp s fx) (hv : SlV w w.heap.size (.slice (some ⟨g, 0, none⟩) q.length c) q) (hc : c ≤ 1000) (h8 : s.st.length + q.length ≤ 1000) :
    Calls Tryd.prog 51 #[.pointer (some ⟨b, 0, none⟩), .slice (some ⟨g, 0, none⟩) q.length c] w fun e w' => e = .returned (.tuple #[]) ∧ MP B b vp { s with st := s.st ++ q } fx w w' := by
  obtain ⟨vs, vo, hm, hf⟩ := h
  refine (lay_v hm hv hc h8).mono ?_
  rintro e w' ⟨rfl, ⟨vs', hb', hm'⟩, ho, hbl⟩
  refine ⟨rfl, ⟨vs', vo, hm', fun r hr => ?_⟩, fun r hr => ?_, hbl⟩
  · obtain ⟨a, c, d, e⟩ := hf r hr
    refine ⟨Nat.lt_of_lt_of_le a hbl.size, c, ?_, e⟩
    rcases hb' with hb' | hb'
    · rw [hb']; exact d
    · intro q; have := hb' r q; omega
  · obtain ⟨a, c, d, e⟩ := hf r hr
    exact ho r a c (fun q => d q.symm)

end

end Go.Proofs.YtfohdoahddommaaDoor
