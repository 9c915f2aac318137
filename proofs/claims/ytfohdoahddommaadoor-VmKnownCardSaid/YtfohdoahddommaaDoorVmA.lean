/- Layer 6, vm: the machine in memory. -/
import Derived.Test.YtfohdoahddommaaDoorVmM
import Derived.Test.YtfohdoahddommaaDoorOwn
import Derived.Test.YtfohdoahddommaaDoorIns
import Derived.WalkKit
import Derived.Laws.StructEq
namespace Go.Proofs.YtfohdoahddommaaDoor
open Go.RowKit Go.Lib
set_option linter.unusedVariables false

/-- An append to the call's own slice stays in its block, or goes into a new one. -/
theorem run_append_blk {P : Program} (w : World) (base : Nat) (t ty e : TypeId) (i : TypeInfo) (z : Value) (size bytes : Nat) (ht : P.underlying t = some (.slice e)) (hi : P.info? e = some i) (hz : i.zero = some z)
    (hsize : i.size = size) (hby : i.bytes = bytes) (hzs : z.cells.size = size) (hsz : 0 < size)
    (v : Value) (n : Nat) (xs : List Value) (hown : w.ownsRow base e size v n xs)
    (a : Addr) (m c : Nat) (news : List Value) (hl : news.length = m * size) (hnews : ∀ j u, news[j]? = some u → w.cell? (a.add j) = some u) (h1 : ∀ u ∈ news, u.oneCell' = true)
    (h63 : n + m ≤ maxLen) (hbytes : (n + m) * bytes ≤ 140737488355328) (hbase : base ≤ w.heap.size) :
    ∃ v' w', (Builtin.append_ #[t, t] ty #[v, .slice (some a) m c]).run P w = .ok v' w' ∧ w'.ownsRow base e size v' (n + m) (xs ++ news) ∧ w.grownBy w' v.ownBlock ∧
      (v'.ownBlock = v.ownBlock ∨ ∀ k, v'.ownBlock = some k → w.heap.size ≤ k) := by
  obtain ⟨v', w', hr, h2, h3, _⟩ := run_append_own (P := P) w base t ty e i z size bytes ht hi hz hsize hby hzs hsz v n xs hown a m c news hl hnews h1 h63 hbytes hbase
  refine ⟨v', w', hr, h2, h3, ?_⟩
  subst hsize
  subst hby
  have hsmall : n + m ≤ 9223372036854775807 := by simp only [maxLen] at h63; omega
  rcases hown.2 with ⟨rfl, rfl⟩ | ⟨g, cap, cur, rfl, hbg, hg, hnc, hcm, hcs, htake⟩
  · have hx : xs = [] := List.eq_nil_of_length_eq_zero (by simpa using hown.1)
    subst hx
    obtain ⟨v2, w2, hr2, o2, _⟩ := run_append_own (P := P) w w.heap.size t ty e i z i.size i.bytes ht hi hz rfl rfl hzs hsz _ 0 [] (World.ownsRow_nil _ _ _ _) a m c news hl hnews h1 h63 hbytes (Nat.le_refl _)
    rw [hr] at hr2
    injection hr2 with e1 e2
    subst e1
    exact Or.inr fun k hk => (o2.lt k hk).1
  · by_cases hroom : n + m ≤ cap
    · have hfit : n * i.size + news.length ≤ cur.size := by rw [hl, hcs, ← Nat.add_mul]; exact Nat.mul_le_mul_right _ hroom
      have hr2 := run_append_room (P := P) w t ty e i ht hi g n cap cur hg a m c news hl hnews h1 hroom hfit
      rw [hr] at hr2
      injection hr2 with e1 e2
      subst e1
      exact Or.inl rfl
    · have holds : ∀ j u, xs[j]? = some u → w.cell? ((⟨g, 0, none⟩ : Addr).add j) = some u := hown.cells (g := g) rfl
      have hr2 := run_append_grow (P := P) w t ty e i z ht hi hz ⟨g, 0, none⟩ n cap xs hown.1 holds a m c news hl hnews (by omega) (by omega) (growslice_fits (by omega) hbytes)
      rw [hr] at hr2
      injection hr2 with e1 e2
      subst e1
      refine Or.inr fun k hk => ?_
      simp [Value.ownBlock] at hk
      omega

theorem wpList_append_blk {P : Program} {w : World} {ops : Array Oper} {rest : List Oper} {o : Oper} {a : Act} {Q : Exit → Act → World → Prop} (hgd : o.guard = none) (s x : Operand) (t : TypeId)
    (ho : o.op = .call { callee := .builtin .append, args := #[s, x], argTypes := #[t, t] })
    (base : Nat) (e : TypeId) (i : TypeInfo) (z : Value) (size bytes : Nat) (ht : P.underlying t = some (.slice e)) (hi : P.info? e = some i) (hz : i.zero = some z)
    (hsize : i.size = size) (hby : i.bytes = bytes) (hzs : z.cells.size = size) (hsz : 0 < size)
    (v : Value) (n : Nat) (xs : List Value) (hs : a.eval s = v) (hown : w.ownsRow base e size v n xs)
    (ad : Addr) (m c : Nat) (news : List Value) (hx : a.eval x = .slice (some ad) m c) (hl : news.length = m * size) (hnews : ∀ j u, news[j]? = some u → w.cell? (ad.add j) = some u) (h1 : ∀ u ∈ news, u.oneCell' = true)
    (h63 : n + m ≤ maxLen) (hbytes : (n + m) * bytes ≤ 140737488355328) (hbase : base ≤ w.heap.size)
    (h : ∀ v' w', w'.ownsRow base e size v' (n + m) (xs ++ news) → w.grownBy w' v.ownBlock → (v'.ownBlock = v.ownBlock ∨ ∀ k, v'.ownBlock = some k → w.heap.size ≤ k) → wpList P ops Q rest (a.put o.dst v') w') : wpList P ops Q (o :: rest) a w := by
  refine wpList_plain hgd fun K hK => ?_
  obtain ⟨v', w', hr, h2, h3, h4⟩ := run_append_blk (P := P) w base t o.type e i z size bytes ht hi hz hsize hby hzs hsz v n xs hown ad m c news hl hnews h1 h63 hbytes hbase
  unfold Oper.wp execOp
  simp only [ho, resolve, invoke, builtin, Sem.run_bind, Sem.run_pure, Result.andThen_ok, List.map_toArray, List.map_cons, List.map_nil, hs, hx, hr]
  exact hK _ _ (h v' w' h2 h3 h4)

/-- The machine's block holds L; its stack and its output lie in rows of their own. -/
structure MchV (w : World) (B b : Nat) (L : List Value) (vs vo : Value) (st out : List (Int × Int)) : Prop where
  le : B ≤ b
  len : L.length = 8
  cells : ∀ k, k < 8 → w.cell? ⟨b, k, none⟩ = L[k]?
  fr : ∀ k, w.frozen? ⟨b, k, none⟩ = false
  own : w.ownsRow (b + 1) 24 2 vs st.length (insCells st)
  ono : w.ownsRow (b + 1) 24 2 vo out.length (insCells out)
  ne : vs.ownBlock = none ∨ vs.ownBlock ≠ vo.ownBlock

def mcells (vp vs vo : Value) (s : VmS) : List Value := [vo, .int .i64 s.c0.1, .int .i64 s.c0.2, .int .i64 s.c1.1, .int .i64 s.c1.2, .int .i64 s.n, vp, vs]

/-- The machine in memory, at b, behind B; the program is vp. -/
def Mch (w : World) (B b : Nat) (vp : Value) (s : VmS) : Prop := ∃ vs vo, MchV w B b (mcells vp vs vo s) vs vo s.st s.out

section
variable {w w' : World} {B b : Nat} {L : List Value} {vs vo vp : Value} {st out : List (Int × Int)} {s : VmS}

theorem MchV.lt (h : MchV w B b L vs vo st out) : b < w.heap.size := by
  have h0 := h.cells 0 (by omega)
  obtain ⟨u, hu⟩ : ∃ u, L[0]? = some u := ⟨_, List.getElem?_eq_getElem (by have := h.len; omega)⟩
  exact World.block_lt_of_cell? w _ (h0.trans hu)

theorem Mch.lt (h : Mch w B b vp s) : b < w.heap.size := by obtain ⟨vs, vo, h⟩ := h; exact h.lt

theorem own_below {B' : Nat} {e : TypeId} {k : Nat} {v : Value} {n : Nat} {xs : List Value} (h : w.ownsRow B' e k v n xs) (hb : Below w.heap.size w w') : w'.ownsRow B' e k v n xs :=
  h.kept (row := none) ⟨hb.os, hb.tape, hb.output, hb.size, fun i hi _ => hb.block i hi⟩ (by
    cases v.ownBlock with
    | none => exact .inl rfl
    | some k => exact .inr (by simp))

theorem MchV.below (h : MchV w B b L vs vo st out) (hb : Below w.heap.size w w') : MchV w' B b L vs vo st out := by
  obtain ⟨hc, hf⟩ := bcell hb
  exact ⟨h.le, h.len, fun k hk => (hc _ _ h.lt).trans (h.cells k hk), fun k => (hf _ _ h.lt).trans (h.fr k), own_below h.own hb, own_below h.ono hb, h.ne⟩

theorem Mch.below (h : Mch w B b vp s) (hb : Below w.heap.size w w') : Mch w' B b vp s := by
  obtain ⟨vs, vo, h⟩ := h
  exact ⟨vs, vo, h.below hb⟩

theorem own_ne {B' : Nat} {e : TypeId} {k : Nat} {v : Value} {n : Nat} {xs : List Value} (h : w.ownsRow B' e k v n xs) {g : Nat} (hg : g < B') : v.ownBlock = none ∨ v.ownBlock ≠ some g := by
  cases hv : v.ownBlock with
  | none => exact .inl rfl
  | some k => exact .inr (by intro e; injection e with e; have := (h.lt k hv).1; omega)

/-- A cell of the machine's own is set. -/
theorem MchV.set (h : MchV w B b L vs vo st out) (j : Nat) (hj : j < 8) (u : Value) : MchV (w.setCell ⟨b, j, none⟩ u) B b (L.set j u) vs vo st out := by
  have hg : w.grownBy (w.setCell ⟨b, j, none⟩ u) (some b) := turned_set (turned_refl w (some b)) (.inl rfl) _
  refine ⟨h.le, by rw [List.length_set]; exact h.len, fun k hk => ?_, fun k => by rw [World.frozen?_setCell]; exact h.fr k, h.own.kept hg (own_ne h.own (by omega)), h.ono.kept hg (own_ne h.ono (by omega)), h.ne⟩
  by_cases e : k = j
  · subst e
    obtain ⟨x, hx⟩ : ∃ x, L[k]? = some x := ⟨_, List.getElem?_eq_getElem (by rw [h.len]; exact hk)⟩
    rw [World.cell?_setCell_same (u := x) _ _ _ ((h.cells k hk).trans hx), List.getElem?_set_self (by rw [h.len]; exact hk)]
  · rw [World.cell?_setCell_other _ _ _ _ (by intro q; injection q with q1 q2; omega), List.getElem?_set_ne (by omega)]
    exact h.cells k hk

/-- Another stack. -/
theorem MchV.stack (h : MchV w B b L vs vo st out) {vs' : Value} {st' : List (Int × Int)} (ho : w.ownsRow (b + 1) 24 2 vs' st'.length (insCells st')) (hn : vs'.ownBlock = none ∨ vs'.ownBlock ≠ vo.ownBlock) : MchV w B b L vs' vo st' out :=
  ⟨h.le, h.len, h.cells, h.fr, ho, h.ono, hn⟩

theorem insCells_take (q : List (Int × Int)) (k : Nat) : insCells (q.take k) = (insCells q).take (k * 2) := by
  induction q generalizing k with
  | nil => simp [insCells]
  | cons x q ih =>
    cases k with
    | zero => simp [insCells]
    | succ k =>
      rw [List.take_succ_cons, show (k + 1) * 2 = k * 2 + 1 + 1 by omega]
      show Value.int .i64 x.1 :: Value.int .i64 x.2 :: insCells (q.take k) = (Value.int .i64 x.1 :: Value.int .i64 x.2 :: insCells q).take (k * 2 + 1 + 1)
      rw [ih, List.take_succ_cons, List.take_succ_cons]

/-- A row of the call's own that is cut. -/
theorem own_cut {B' : Nat} {e : TypeId} {A : Option Addr} {n c : Nat} {q : List (Int × Int)} (h : w.ownsRow B' e 2 (.slice A n c) q.length (insCells q)) (k : Nat) (hk : k ≤ q.length) : w.ownsRow B' e 2 (.slice A k c) (q.take k).length (insCells (q.take k)) := by
  have hl : (q.take k).length = k := by rw [List.length_take]; omega
  refine ⟨insCells_len _, ?_⟩
  rcases h.2 with ⟨hv, hn⟩ | ⟨g, cap, cur, hv, hb, hg, hc, hm, hs, hx⟩
  · injection hv with e1 e2 e3
    exact .inl ⟨by rw [e1, e3]; congr 1; omega, by omega⟩
  · injection hv with e1 e2 e3
    subst e1; subst e3
    refine .inr ⟨g, c, cur, by rw [hl], hb, hg, by omega, hm, hs, ?_⟩
    rw [hl, insCells_take, ← hx, List.take_take, Nat.min_eq_left (by omega)]

/-- What an append to the stack makes of the machine. -/
theorem MchV.app (h : MchV w B b L vs vo st out) {v' : Value} {q : List (Int × Int)} (ho : w'.ownsRow (b + 1) 24 2 v' (st.length + q.length) (insCells st ++ insCells q)) (hg : w.grownBy w' vs.ownBlock)
    (hv : v'.ownBlock = vs.ownBlock ∨ ∀ k, v'.ownBlock = some k → w.heap.size ≤ k) : MchV w' B b L v' vo (st ++ q) out ∧ Below B w w' := by
  have hbn : some b ≠ vs.ownBlock := by
    intro e
    have := (h.own.lt b e.symm).1
    omega
  have hbb := hg.block b h.lt hbn
  refine ⟨⟨h.le, h.len, fun k hk => ?_, fun k => (World.frozen?_of_block (a := ⟨b, k, none⟩) hbb).trans (h.fr k), ?_, h.ono.kept hg ?_, ?_⟩, ?_⟩
  · exact (World.cell?_of_block (a := ⟨b, k, none⟩) hbb).trans (h.cells k hk)
  · rw [List.length_append, insCells_append]; exact ho
  · rcases h.ne with e | e
    · rw [e]; cases vo.ownBlock with
      | none => exact .inl rfl
      | some k => exact .inr (by simp)
    · exact .inr fun q => e q.symm
  · rcases hv with e | e
    · rw [e]; exact h.ne
    · cases hk : v'.ownBlock with
      | none => exact .inl rfl
      | some k =>
        refine .inr fun q => ?_
        have := e k hk
        have := (h.ono.lt k q.symm).2
        omega
  · exact (Below.refl B w).grown hg (Nat.le_trans h.le (Nat.le_of_lt h.lt)) (fun k hk => by have := (h.own.lt k hk).1; have := h.le; omega)

/-- .. to the output. -/
theorem MchV.emit (h : MchV w B b L vs vo st out) {v' : Value} {q : List (Int × Int)} (ho : w'.ownsRow (b + 1) 24 2 v' (out.length + q.length) (insCells out ++ insCells q)) (hg : w.grownBy w' vo.ownBlock)
    (hv : v'.ownBlock = vo.ownBlock ∨ ∀ k, v'.ownBlock = some k → w.heap.size ≤ k) : MchV w' B b L vs v' st (out ++ q) ∧ Below B w w' := by
  have hbn : some b ≠ vo.ownBlock := by
    intro e
    have := (h.ono.lt b e.symm).1
    omega
  have hbb := hg.block b h.lt hbn
  refine ⟨⟨h.le, h.len, fun k hk => ?_, fun k => (World.frozen?_of_block (a := ⟨b, k, none⟩) hbb).trans (h.fr k), h.own.kept hg h.ne, ?_, ?_⟩, ?_⟩
  · exact (World.cell?_of_block (a := ⟨b, k, none⟩) hbb).trans (h.cells k hk)
  · rw [List.length_append, insCells_append]; exact ho
  · rcases hv with e | e
    · rw [e]; exact h.ne
    · cases hk : vs.ownBlock with
      | none => exact .inl rfl
      | some k =>
        refine .inr fun q => ?_
        have := e k q.symm
        have := (h.own.lt k hk).2
        omega
  · exact (Below.refl B w).grown hg (Nat.le_trans h.le (Nat.le_of_lt h.lt)) (fun k hk => by have := (h.ono.lt k hk).1; have := h.le; omega)

end

end Go.Proofs.YtfohdoahddommaaDoor
