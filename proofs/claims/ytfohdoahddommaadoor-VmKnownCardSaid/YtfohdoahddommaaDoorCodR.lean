/- Layer 4, code: words that are read again: plain facts. -/
import Derived.Test.YtfohdoahddommaaDoorCodM
namespace Go.Proofs.YtfohdoahddommaaDoor
open Go.RowKit Go.Lib
set_option linter.unusedVariables false
set_option maxRecDepth 100000

theorem index_blank : ∀ (a b : List UInt8), (∀ c ∈ a, Wb c) → index (a ++ 32 :: b) [32] = a.length
  | [], b, _ => by simp [index]
  | c :: a, b, h => by
    have hc := (h c (by simp)).1
    have ih := index_blank a b (fun c hc => h c (by simp [hc]))
    rw [List.cons_append, index, ih]
    have : ([32] : List UInt8).isPrefixOf (c :: (a ++ 32 :: b)) = false := by
      simp only [List.isPrefixOf, Bool.and_eq_false_iff, beq_eq_false_iff_ne]
      exact .inl (fun e => hc e.symm)
    rw [this, if_neg (by simp)]
    have h2 : (((a.length : Nat) : Int) == -1) = false := by simp
    rw [h2, if_neg (by simp)]
    simp

theorem index_no : ∀ (a : List UInt8), (∀ c ∈ a, Wb c) → index a [32] = -1
  | [], _ => by simp [index]
  | c :: a, h => by
    have hc := (h c (by simp)).1
    have ih := index_no a (fun c hc => h c (by simp [hc]))
    rw [index, ih]
    have : ([32] : List UInt8).isPrefixOf (c :: a) = false := by
      simp only [List.isPrefixOf, Bool.and_eq_false_iff, beq_eq_false_iff_ne]
      exact .inl (fun e => hc e.symm)
    rw [this]
    simp

/-- A word that ends with a semicolon is as one without. -/
theorem index_semi (a b : List UInt8) (h : ∀ c ∈ a, Wb c) : index (a ++ 59 :: 32 :: b) [32] = (a.length + 1 : Nat) := by
  have key : ∀ (a b : List UInt8), (∀ c ∈ a, c ≠ 32) → index (a ++ 32 :: b) [32] = a.length := by
    intro a b
    induction a with
    | nil => intro _; simp [index]
    | cons c a ih =>
      intro h
      have hc := h c (by simp)
      have ih := ih (fun c hc => h c (by simp [hc]))
      rw [List.cons_append, index, ih]
      have : ([32] : List UInt8).isPrefixOf (c :: (a ++ 32 :: b)) = false := by
        simp only [List.isPrefixOf, Bool.and_eq_false_iff, beq_eq_false_iff_ne]
        exact .inl (fun e => hc e.symm)
      rw [this, if_neg (by simp)]
      have h2 : (((a.length : Nat) : Int) == -1) = false := by simp
      rw [h2, if_neg (by simp)]
      simp
  have := key (a ++ [59]) b (fun c hc => by
    rcases List.mem_append.1 hc with hc | hc
    · exact (h c hc).1
    · obtain rfl := List.mem_singleton.1 hc; decide)
  rw [List.append_assoc] at this
  simpa using this

theorem cut_at {s : List UInt8} {k : Nat} (h : index s [32] = (k : Nat)) : (cut s [32]).1 = s.take k ∧ (cut s [32]).2.1 = s.drop (k + 1) := by
  unfold cut
  rw [h, if_pos (by omega)]
  exact ⟨rfl, rfl⟩

theorem cut_no {s : List UInt8} (h : index s [32] = -1) : (cut s [32]).1 = s ∧ (cut s [32]).2.1 = [] := by
  unfold cut
  rw [h, if_neg (by omega)]
  exact ⟨rfl, rfl⟩

theorem trim_no {a : List UInt8} (h : ∀ c ∈ a, Wb c) : trimSuffix a [59] = a := by
  unfold trimSuffix
  rw [if_neg]
  intro e
  unfold hasSuffix at e
  obtain ⟨t, ht⟩ := List.isSuffixOf_iff_suffix.1 e
  exact (h 59 (by rw [← ht]; simp)).2 rfl

theorem trim_semi (a : List UInt8) : trimSuffix (a ++ [59]) [59] = a := by
  unfold trimSuffix
  rw [if_pos]
  · simp
  · unfold hasSuffix
    rw [List.isSuffixOf_iff_suffix]
    exact ⟨a, rfl⟩

theorem word_blank (a b : List UInt8) (h : ∀ c ∈ a, Wb c) : wordL (a ++ 32 :: b) = a ∧ restL (a ++ 32 :: b) = b := by
  obtain ⟨h1, h2⟩ := cut_at (index_blank a b h)
  unfold wordL restL
  rw [h1, h2]
  refine ⟨?_, by simp⟩
  rw [List.take_left' rfl, trim_no h]

theorem word_semi (a b : List UInt8) (h : ∀ c ∈ a, Wb c) : wordL (a ++ 59 :: 32 :: b) = a ∧ restL (a ++ 59 :: 32 :: b) = b := by
  obtain ⟨h1, h2⟩ := cut_at (index_semi a b h)
  unfold wordL restL
  rw [h1, h2]
  have e : a ++ 59 :: 32 :: b = (a ++ [59]) ++ (32 :: b) := by simp
  refine ⟨?_, ?_⟩
  · rw [e, List.take_left' (by simp), trim_semi]
  · have e2 : a ++ 59 :: 32 :: b = (a ++ [59, 32]) ++ b := by simp
    rw [e2, List.drop_left' (by simp)]

theorem word_last (a : List UInt8) (h : ∀ c ∈ a, Wb c) : wordL a = a ∧ restL a = [] := by
  obtain ⟨h1, h2⟩ := cut_no (index_no a h)
  unfold wordL restL
  rw [h1, h2]
  exact ⟨trim_no h, rfl⟩

/-- The first instruction's words are read, and what is behind them is the others'. -/
theorem read_plain {x : Int × Int} (r : List (Int × Int)) (hx : rightI x = true) (hn : numdI x.1 = false) : wordL (textL (x :: r)) = nameL x.1 ∧ restL (textL (x :: r)) = textL r := by
  have hb := rightI_bounds hx
  have hw : wordI x = nameL x.1 := by unfold wordI; rw [hn]; simp
  cases r with
  | nil =>
    rw [textL_one, hw]
    exact word_last _ (nameL_wb hb.1 hb.2.1)
  | cons y r =>
    rw [textL_cons _ _ (by simp), hw]
    exact word_semi _ _ (nameL_wb hb.1 hb.2.1)

theorem read_numbered {x : Int × Int} (r : List (Int × Int)) (hx : rightI x = true) (hn : numdI x.1 = true) :
    wordL (textL (x :: r)) = nameL x.1 ∧ wordL (restL (textL (x :: r))) = itoa x.2 ∧ restL (restL (textL (x :: r))) = textL r := by
  have hb := rightI_bounds hx
  have hw : wordI x = nameL x.1 ++ 32 :: itoa x.2 := by unfold wordI; rw [hn]; simp
  cases r with
  | nil =>
    rw [textL_one, hw]
    obtain ⟨h1, h2⟩ := word_blank (nameL x.1) (itoa x.2) (nameL_wb hb.1 hb.2.1)
    rw [h1, h2]
    obtain ⟨h3, h4⟩ := word_last (itoa x.2) (itoa_wb _)
    exact ⟨rfl, h3, h4⟩
  | cons y r =>
    rw [textL_cons _ _ (by simp), hw]
    have e : nameL x.1 ++ 32 :: itoa x.2 ++ 59 :: 32 :: textL (y :: r) = nameL x.1 ++ 32 :: (itoa x.2 ++ 59 :: 32 :: textL (y :: r)) := by simp
    rw [e]
    obtain ⟨h1, h2⟩ := word_blank (nameL x.1) (itoa x.2 ++ 59 :: 32 :: textL (y :: r)) (nameL_wb hb.1 hb.2.1)
    rw [h1, h2]
    obtain ⟨h3, h4⟩ := word_semi (itoa x.2) (textL (y :: r)) (itoa_wb _)
    exact ⟨rfl, h3, h4⟩

theorem textL_inj : ∀ {a b : List (Int × Int)}, a.all rightI = true → b.all rightI = true → textL a = textL b → a = b
  | [], [], _, _, _ => rfl
  | [], y :: b, _, hb, h => by
    rw [List.all_cons, Bool.and_eq_true] at hb
    exact absurd h.symm (textL_ne hb.1)
  | x :: a, [], ha, _, h => by
    rw [List.all_cons, Bool.and_eq_true] at ha
    exact absurd h (textL_ne ha.1)
  | x :: a, y :: b, ha, hb, h => by
    rw [List.all_cons, Bool.and_eq_true] at ha hb
    have bx := rightI_bounds ha.1
    have bY := rightI_bounds hb.1
    have h1 : x.1 = y.1 := by
      have hw : nameL x.1 = nameL y.1 := by
        have e1 : wordL (textL (x :: a)) = nameL x.1 := by
          cases hn : numdI x.1 with
          | true => exact (read_numbered a ha.1 hn).1
          | false => exact (read_plain a ha.1 hn).1
        have e2 : wordL (textL (y :: b)) = nameL y.1 := by
          cases hn : numdI y.1 with
          | true => exact (read_numbered b hb.1 hn).1
          | false => exact (read_plain b hb.1 hn).1
        rw [← e1, ← e2, h]
      have e1 := opOf_name x.1 bx.1 bx.2.1
      have e2 := opOf_name y.1 bY.1 bY.2.1
      rw [← e1, ← e2, hw]
    cases hn : numdI x.1 with
    | true =>
      have hn2 : numdI y.1 = true := by rw [← h1]; exact hn
      have r1 := read_numbered a ha.1 hn
      have r2 := read_numbered b hb.1 hn2
      have h2 : itoa x.2 = itoa y.2 := by rw [← r1.2.1, ← r2.2.1, h]
      have h3 : textL a = textL b := by rw [← r1.2.2, ← r2.2.2, h]
      have s1 := rightI_small ha.1
      have s2 := rightI_small hb.1
      have i1 := atoi_itoa x.2 s1.1 s1.2
      have i2 := atoi_itoa y.2 s2.1 s2.2
      rw [h2, i2] at i1
      injection i1 with i1
      rw [textL_inj ha.2 hb.2 h3, show x = y from Prod.ext h1 i1.symm]
    | false =>
      have hn2 : numdI y.1 = false := by rw [← h1]; exact hn
      have h3 : textL a = textL b := by rw [← (read_plain a ha.1 hn).2, ← (read_plain b hb.1 hn2).2, h]
      have z1 := rightI_zero ha.1 hn
      have z2 := rightI_zero hb.1 hn2
      rw [textL_inj ha.2 hb.2 h3, show x = y from Prod.ext h1 (by rw [z1, z2])]

/-- So far q was read, and L is left: whosever words S are, q is what they begin with. -/
def Rdg (S : List UInt8) (q : List (Int × Int)) (L : List UInt8) : Prop :=
  ∀ l, fitsL l = true → S = textL l → ∃ k, k ≤ l.length ∧ q = l.take k ∧ L = textL (l.drop k)

theorem Rdg.start (S : List UInt8) : Rdg S [] S := fun l _ h => ⟨0, Nat.zero_le _, by simp, by simpa using h⟩

theorem drop_right {l : List (Int × Int)} (h : fitsL l = true) {k : Nat} (hk : k < l.length) : l.drop k = l[k] :: l.drop (k + 1) ∧ rightI l[k] = true := by
  refine ⟨List.drop_eq_getElem_cons hk, ?_⟩
  rw [fitsL_iff] at h
  exact List.all_eq_true.1 h.2 _ (List.getElem_mem hk)

theorem Rdg.lt {S L : List UInt8} {q : List (Int × Int)} (hL : L ≠ []) {l : List (Int × Int)} {k : Nat} (hk : k ≤ l.length) (h : L = textL (l.drop k)) : k < l.length := by
  rcases Nat.lt_or_ge k l.length with h1 | h1
  · exact h1
  · rw [List.drop_eq_nil_of_le h1] at h
    exact absurd h hL

theorem Rdg.plain {S L : List UInt8} {q : List (Int × Int)} (h : Rdg S q L) (hL : L ≠ []) {o : Int} (ho : opOf (wordL L) = o) (hn : numdI o = false) : Rdg S (q ++ [(o, 0)]) (restL L) := by
  intro l hf hS
  obtain ⟨k, hk, hq, hLk⟩ := h l hf hS
  have hlt := Rdg.lt (S := S) (q := q) hL hk hLk
  obtain ⟨hd, hr⟩ := drop_right hf hlt
  have hb := rightI_bounds hr
  rw [hd] at hLk
  have e1 : wordL L = nameL l[k].1 := by
    rw [hLk]
    cases hn : numdI l[k].1 with
    | true => exact (read_numbered _ hr hn).1
    | false => exact (read_plain _ hr hn).1
  have e2 : o = l[k].1 := by rw [← ho, e1, opOf_name _ hb.1 hb.2.1]
  rw [e2] at hn
  refine ⟨k + 1, hlt, ?_, ?_⟩
  · rw [List.take_succ_eq_append_getElem hlt, ← hq, e2, ← rightI_zero hr hn]
  · rw [hLk]; exact (read_plain _ hr hn).2

theorem Rdg.numbered {S L : List UInt8} {q : List (Int × Int)} (h : Rdg S q L) (hL : L ≠ []) {o a : Int} (ho : opOf (wordL L) = o) (hn : numdI o = true) (ha : ∀ n, atoiAll (wordL (restL L)) = .ok n → a = n) :
    Rdg S (q ++ [(o, a)]) (restL (restL L)) := by
  intro l hf hS
  obtain ⟨k, hk, hq, hLk⟩ := h l hf hS
  have hlt := Rdg.lt (S := S) (q := q) hL hk hLk
  obtain ⟨hd, hr⟩ := drop_right hf hlt
  have hb := rightI_bounds hr
  rw [hd] at hLk
  have e1 : wordL L = nameL l[k].1 := by
    rw [hLk]
    cases hn : numdI l[k].1 with
    | true => exact (read_numbered _ hr hn).1
    | false => exact (read_plain _ hr hn).1
  have e2 : o = l[k].1 := by rw [← ho, e1, opOf_name _ hb.1 hb.2.1]
  rw [e2] at hn
  have r := read_numbered (l.drop (k + 1)) hr hn
  rw [← hLk] at r
  have s := rightI_small hr
  have e3 : a = l[k].2 := ha _ (by rw [r.2.1]; exact atoi_itoa _ s.1 s.2)
  refine ⟨k + 1, hlt, ?_, r.2.2⟩
  rw [List.take_succ_eq_append_getElem hlt, ← hq, e2, e3]

theorem Rdg.done {S L : List UInt8} {q : List (Int × Int)} (h : Rdg S q L) (hL : L = [] ∨ 24 < q.length) {l : List (Int × Int)} (hf : fitsL l = true) (hS : S = textL l) : q = l := by
  obtain ⟨k, hk, hq, hLk⟩ := h l hf hS
  rcases hL with rfl | hL
  · rcases Nat.lt_or_ge k l.length with h1 | h1
    · obtain ⟨hd, hr⟩ := drop_right hf h1
      rw [hd] at hLk
      exact absurd hLk.symm (textL_ne hr)
    · rw [hq, List.take_of_length_le h1]
  · have h1 := (fitsL_iff l).1 hf
    have : q.length ≤ l.length := by rw [hq, List.length_take]; omega
    omega

/-- What Parse answers. -/
inductive PrsIs (S : List UInt8) : List (Int × Int) → Int → Prop
  | good (l : List (Int × Int)) : fitsL l = true → S = textL l → PrsIs S l 0
  | bad : (∀ l, fitsL l = true → S ≠ textL l) → PrsIs S [] 4

theorem Rdg.good {S L : List UInt8} {q : List (Int × Int)} (h : Rdg S q L) (hL : L = [] ∨ 24 < q.length) (hq : outL q = S) : PrsIs S q 0 := by
  cases hf : fitsL q with
  | true => exact .good q hf (by rw [← hq, textL_out hf])
  | false =>
    rw [textL_out_not hf] at hq
    have := h.done hL (l := []) rfl (by rw [← hq]; rfl)
    rw [this] at hf
    cases hf

theorem Rdg.bad {S L : List UInt8} {q : List (Int × Int)} (h : Rdg S q L) (hL : L = [] ∨ 24 < q.length) (hq : outL q ≠ S) : PrsIs S [] 4 := by
  refine .bad fun l hf hS => hq ?_
  rw [h.done hL hf hS, textL_out hf, hS]

theorem PrsIs.of_text {S : List UInt8} {p l : List (Int × Int)} {e : Int} (h : PrsIs S l e) (hp : fitsL p = true) (hS : S = textL p) : l = p ∧ e = 0 := by
  cases h with
  | good _ hf ht => exact ⟨textL_inj ((fitsL_iff _).1 hf).2 ((fitsL_iff _).1 hp).2 (by rw [← ht, hS]), rfl⟩
  | bad h => exact absurd hS (h p hp)

theorem wordL_len (s : List UInt8) : (wordL s).length ≤ s.length := by
  have h1 : (cut s [32]).1.length ≤ s.length := by
    unfold cut; split
    · simp; omega
    · simp
  have h2 : ∀ t : List UInt8, (trimSuffix t [59]).length ≤ t.length := fun t => by
    unfold trimSuffix; split
    · simp
    · exact Nat.le_refl _
  exact Nat.le_trans (h2 _) h1

theorem restL_len (s : List UInt8) : (restL s).length ≤ s.length := by
  unfold restL cut; split
  · simp
  · simp

end Go.Proofs.YtfohdoahddommaaDoor
