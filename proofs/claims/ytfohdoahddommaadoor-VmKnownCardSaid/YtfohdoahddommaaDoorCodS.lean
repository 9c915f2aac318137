/- Layer 4, code: programs that come in; what is appended to them: of no program; words of two programs. -/
import Derived.Test.YtfohdoahddommaaDoorCodM
import Derived.Laws.AppendOwnNone
import Derived.Laws.OwnMore
import Derived.WalkKit
namespace Go.Proofs.YtfohdoahddommaaDoor
open Go.RowKit Go.Lib
set_option linter.unusedVariables false
set_option maxRecDepth 100000

/-- A slice of pairs that came in: nil has no room. -/
structure SnIn (w : World) (v : Value) (l : List (Int × Int)) : Prop extends SvIn w v l where
  nil : ∀ n c, v = .slice none n c → n = 0 ∧ c = 0

/-- All of a slice that may be nil is appended to the call's own. -/
theorem wpList_append_maybe {P : Program} {w : World} {ops : Array Oper} {rest : List Oper} {o : Oper} {a : Act} {Q : Exit → Act → World → Prop} (hgd : o.guard = none) (s x : Operand) (t : TypeId)
    (ho : o.op = .call { callee := .builtin .append, args := #[s, x], argTypes := #[t, t] })
    (base : Nat) (e : TypeId) (i : TypeInfo) (z : Value) (size bytes : Nat) (ht : P.underlying t = some (.slice e)) (hi : P.info? e = some i) (hz : i.zero = some z)
    (hsize : i.size = size) (hby : i.bytes = bytes) (hzs : z.cells.size = size) (hsz : 0 < size)
    (v : Value) (n : Nat) (xs : List Value) (hs : a.eval s = v) (hown : w.ownsRow base e size v n xs)
    (A : Option Addr) (m c : Nat) (news : List Value) (hx : a.eval x = .slice A m c) (hnil : A = none → m = 0 ∧ c = 0) (hl : news.length = m * size) (hnews : ∀ ad, A = some ad → ∀ j u, news[j]? = some u → w.cell? (ad.add j) = some u) (h1 : ∀ u ∈ news, u.oneCell' = true)
    (h63 : n + m ≤ maxLen) (hbytes : (n + m) * bytes ≤ 140737488355328) (hbase : base ≤ w.heap.size)
    (h : ∀ v' w', w'.ownsRow base e size v' (n + m) (xs ++ news) → w.grownBy w' v.ownBlock → wpList P ops Q rest (a.put o.dst v') w') : wpList P ops Q (o :: rest) a w := by
  cases A with
  | none =>
    obtain ⟨rfl, rfl⟩ := hnil rfl
    have hn0 : news = [] := List.eq_nil_of_length_eq_zero (by rw [hl]; omega)
    subst hn0
    refine wpList_append_own_none hgd s x t ho base e i size ht hi v n xs hs hown hx (h v w ?_ (turned_refl w _))
    simpa using hown
  | some ad => exact wpList_append_own w hgd s x t ho base e i z size bytes ht hi hz hsize hby hzs hsz v n xs hs hown ad m c news hx hl (hnews ad rfl) h1 h63 hbytes hbase (fun v' w' a b _ => h v' w' a b)

theorem textL_append {p q : List (Int × Int)} (hp : p ≠ []) (hq : q ≠ []) : textL (p ++ q) = textL p ++ ([59, 32] ++ textL q) := by
  induction p with
  | nil => exact absurd rfl hp
  | cons x p ih =>
    cases p with
    | nil => rw [List.cons_append, List.nil_append, textL_cons _ _ hq, textL_one]; simp
    | cons y p =>
      rw [List.cons_append, textL_cons _ _ (by simp), ih (by simp), textL_cons x (y :: p) (by simp)]
      simp

theorem fits_append {p q : List (Int × Int)} (hp : fitsL p = true) (hq : fitsL q = true) (h : (p ++ q).length ≤ 24) : fitsL (p ++ q) = true := by
  rw [fitsL_iff] at hp hq ⊢
  rw [List.all_append, hp.2, hq.2]
  exact ⟨h, rfl⟩

theorem fits_take {p : List (Int × Int)} (hp : fitsL p = true) (k : Nat) : fitsL (p.take k) = true := by
  rw [fitsL_iff] at hp ⊢
  refine ⟨by rw [List.length_take]; omega, ?_⟩
  rw [List.all_eq_true] at hp ⊢
  exact fun x hx => hp.2 x (List.mem_of_mem_take hx)

end Go.Proofs.YtfohdoahddommaaDoor
