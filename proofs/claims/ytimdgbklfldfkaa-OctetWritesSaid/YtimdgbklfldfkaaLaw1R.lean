/- Layer 1, octet: OctetReads' walk. -/
import Derived.Test.YtimdgbklfldfkaaLaw1
import Derived.Test.YtimdgbklfldfkaaOctRef
namespace Go.Proofs.Ytimdgbklfldfkaa
open Go.RowKit

/-- A Reader in block b that has n bytes left. -/
def RdN (w : World) (b : Nat) (n : Int) : Prop := ∃ l, RdAt w b 0 l ∧ (l.length : Int) = n

theorem RdAt.turned {w w' : World} {b o c : Nat} {l : List UInt8} (h : RdAt w b o l) (hg : w.grownBy w' (some c)) (hc : c ≠ b) : RdAt w' b o l := by
  have hb : b < w.heap.size := World.block_lt_of_cell? w _ h.1
  have hh : w'.heap[b]? = w.heap[b]? := hg.block b hb (by intro e; injection e with e; exact hc e.symm)
  exact ⟨(World.cell?_of_block (w := w) (a := ⟨b, o, none⟩) hh).trans h.1, (World.frozen?_of_block (w := w) (a := ⟨b, o, none⟩) hh).trans h.2⟩

theorem RdN.turned {w w' : World} {b c : Nat} {n : Int} (h : RdN w b n) (hg : w.grownBy w' (some c)) (hc : c ≠ b) : RdN w' b n := by
  obtain ⟨l, h1, h2⟩ := h
  exact ⟨l, h1.turned hg hc, h2⟩

theorem left_gen (b : Nat) (n : Int) (w : World) (h : RdN w b n) :
    Calls Try.prog 17 #[.pointer (some ⟨b, 0, none⟩)] w fun e w' => e = .returned (.int .i64 n) ∧ w = w' := by
  obtain ⟨l, h1, h2⟩ := h
  rw [← h2]
  exact left_any b 0 l w h1

/-- What Within answers. -/
inductive WRes (l : List UInt8) (x y : Int) : Int → Int → Int → Prop
  | short (h : l.length < 4) : WRes l x y 0 3 l.length
  | low (h : 4 ≤ l.length) (h1 : head4 l < x) : WRes l x y 0 2 l.length
  | high (h : 4 ≤ l.length) (h0 : ¬ head4 l < x) (h1 : y < head4 l) : WRes l x y 0 2 l.length
  | ok (h : 4 ≤ l.length) (h0 : x ≤ head4 l) (h1 : head4 l ≤ y) : WRes l x y (head4 l) 0 (l.length - 4)

theorem within_gen (b : Nat) (l : List UInt8) (x y V E n : Int) (w : World) (h : WRes l x y V E n) (h1 : RdAt w b 0 l) (hl : l.length ≤ 1000000000000) :
    Calls Try.prog 20 #[.pointer (some ⟨b, 0, none⟩), .int .i64 x, .int .i64 y] w fun e w' => e = .returned (.tuple #[.int .i64 V, .int .i64 E]) ∧ RdN w' b n ∧ w.grownBy w' (some b) := by
  cases h with
  | short h =>
    refine (within_short b 0 l x y w h h1).mono ?_
    rintro e w' ⟨rfl, rfl⟩
    exact ⟨rfl, ⟨l, h1, rfl⟩, turned_refl _ _⟩
  | low h h2 =>
    refine (within_bad b 0 l x y w h (.inl h2) h1 hl).mono ?_
    rintro e w' ⟨rfl, n, rfl⟩
    exact ⟨rfl, ⟨l, h1.drewN n, rfl⟩, turned_drewN (turned_refl _ _) n⟩
  | high h h0 h2 =>
    refine (within_bad b 0 l x y w h (.inr ⟨h0, h2⟩) h1 hl).mono ?_
    rintro e w' ⟨rfl, n, rfl⟩
    exact ⟨rfl, ⟨l, h1.drewN n, rfl⟩, turned_drewN (turned_refl _ _) n⟩
  | ok h h0 h2 =>
    refine (within_ok b 0 l x y w h h0 h2 h1 hl).mono ?_
    rintro e w' ⟨rfl, n, rfl⟩
    exact ⟨rfl, ⟨l.drop 4, (h1.drewN n).set _, by rw [List.length_drop]; omega⟩, turned_set (p := ⟨b, 0, none⟩) (turned_drewN (turned_refl _ _) n) (.inl rfl) _⟩

theorem num_gen (b : Nat) (l : List UInt8) (V E n : Int) (w : World) (h : WRes l (-2147483648) 2147483647 V E n) (h1 : RdAt w b 0 l) (hl : l.length ≤ 1000000000000) :
    Calls Try.prog 15 #[.pointer (some ⟨b, 0, none⟩)] w fun e w' => e = .returned (.tuple #[.int .i64 V, .int .i64 E]) ∧ RdN w' b n ∧ w.grownBy w' (some b) :=
  rnum_of b 0 w V E _ (within_gen b l _ _ V E n w h h1 hl)

/-- What Text answers, where it is an error. -/
inductive TBad (l : List UInt8) (y : Int) : Int → Prop
  | short (h : l.length < 4) : TBad l y 3
  | low (h : 4 ≤ l.length) (h1 : head4 l < 0) : TBad l y 2
  | high (h : 4 ≤ l.length) (h0 : ¬ head4 l < 0) (h1 : y < head4 l) : TBad l y 2
  | far (h : 4 ≤ l.length) (h0 : ¬ head4 l < 0) (h1 : ¬ y < head4 l) (h2 : (l.length : Int) - 4 < head4 l) : TBad l y 3

theorem text_gen (b : Nat) (l : List UInt8) (y E : Int) (w : World) (h : TBad l y E) (h1 : RdAt w b 0 l) (hl : l.length ≤ 1000000000000) :
    Calls Try.prog 16 #[.pointer (some ⟨b, 0, none⟩), .int .i64 y] w fun e w' => e = .returned (.tuple #[.string ⟨#[]⟩, .int .i64 E]) ∧ RdN w' b l.length ∧ Below w.heap.size w w' := by
  cases h with
  | short h =>
    refine (text_short b 0 l y w h h1).mono ?_
    rintro e w' ⟨rfl, rfl⟩
    exact ⟨rfl, ⟨l, h1, rfl⟩, Below.refl _ _⟩
  | low h h2 =>
    refine (text_bad b 0 l y w h (.inl h2) h1 hl).mono ?_
    rintro e w' ⟨rfl, n, rfl⟩
    exact ⟨rfl, ⟨l, h1.drewN n, rfl⟩, below_drewN (Below.refl _ _) n⟩
  | high h h0 h2 =>
    refine (text_bad b 0 l y w h (.inr ⟨h0, h2⟩) h1 hl).mono ?_
    rintro e w' ⟨rfl, n, rfl⟩
    exact ⟨rfl, ⟨l, h1.drewN n, rfl⟩, below_drewN (Below.refl _ _) n⟩
  | far h h0 h2 h3 =>
    refine (text_far b 0 l y w h h0 h2 h3 h1 hl).mono ?_
    rintro e w' ⟨rfl, n, rfl⟩
    exact ⟨rfl, ⟨l, h1.drewN n, rfl⟩, below_drewN (Below.refl _ _) n⟩

theorem RdAt.newS (w : World) (S : ByteArray) (t : TypeId) : RdAt (w.alloc (.cells #[.string S] t)) w.heap.size 0 S.data.toList := by
  have := RdAt.new w S.data.toList t
  rwa [mk_data] at this

theorem RdAt.alloc {w : World} {b o : Nat} {l : List UInt8} (h : RdAt w b o l) (x : Obj) : RdAt (w.alloc x) b o l := h.below ((Below.refl _ w).alloc (Nat.le_refl _) x)

/-- Three new Readers. -/
theorem threeR (w : World) (S : ByteArray) (X : Obj) (hX : X = .cells #[.string S] 56) :
    RdAt (((w.alloc X).alloc X).alloc X) w.heap.size 0 S.data.toList ∧ RdAt (((w.alloc X).alloc X).alloc X) (w.heap.size + 1) 0 S.data.toList ∧ RdAt (((w.alloc X).alloc X).alloc X) (w.heap.size + 2) 0 S.data.toList ∧ Below w.heap.size w (((w.alloc X).alloc X).alloc X) := by
  subst hX
  have h1 := RdAt.newS w S 56
  have h2 := RdAt.newS (w.alloc (.cells #[.string S] 56)) S 56
  have h3 := RdAt.newS ((w.alloc (.cells #[.string S] 56)).alloc (.cells #[.string S] 56)) S 56
  simp only [World.size_alloc] at h2 h3
  exact ⟨(h1.alloc _).alloc _, h2.alloc _, h3, (((Below.refl _ _).alloc (Nat.le_refl _) _).alloc (by simp) _).alloc (by simp; omega) _⟩

set_option maxRecDepth 100000 in
theorem reads_long (S : ByteArray) (x y : Int) (w : World) (hl : 300 < S.size) (hl2 : S.size ≤ maxLen) :
    Calls Try.prog 4 #[.string S, .int .i64 x, .int .i64 y] w fun e w' => e = .returned (.bool true) ∧ Below w.heap.size w w' := by
  unfold maxLen at hl2
  go_enter Try.func4, Try.ntmps4
  go_wp2_with fail
  refine (awake1 _).mono ?_
  rintro e w1 ⟨rfl, hb1⟩
  have HB := hid hb1; clear hb1
  go_wp2
  go_ret
  exact ⟨rfl, HB.out⟩

theorem rdn_size {w : World} {b : Nat} {S : ByteArray} (h : RdN w b S.data.toList.length) : RdN w b S.size := by rw [size_list]; exact h

set_option maxRecDepth 100000 in
set_option maxHeartbeats 4000000 in
theorem reads_short (S : ByteArray) (x y : Int) (w : World) (hl : S.size < 4) :
    Calls Try.prog 4 #[.string S, .int .i64 x, .int .i64 y] w fun e w' => e = .returned (.bool true) ∧ Below w.heap.size w w' := by
  have hs := size_list S
  have HLL : Hid (S.data.toList.length ≤ 1000000000000) := hid (by omega)
  have HN : Hid (WRes S.data.toList (-2147483648) 2147483647 0 3 S.size) := hid (by rw [hs]; exact .short (by omega))
  have HW : Hid (WRes S.data.toList x y 0 3 S.size) := hid (by rw [hs]; exact .short (by omega))
  have HT : Hid (TBad S.data.toList y 3) := hid (.short (by omega))
  clear hs
  go_enter Try.func4, Try.ntmps4
  go_wp2_with fail
  refine (awake1 _).mono ?_
  rintro e w1 ⟨rfl, hb1⟩
  have HB := hid hb1; clear hb1
  go_wp2_with (first
    | (go_at_call 19; refine (get_short _ _ hl).mono ?_; rintro e w' ⟨rfl, rfl⟩)
    | (go_at_call 14; refine (new_any _ _).mono ?_; rintro e w' ⟨rfl, rfl⟩))
  obtain ⟨ha, hb, hc, h3⟩ := threeR w1 S _ rfl
  have HA := hid ha; have HB2 := hid hb; have HC := hid hc; have H3 := hid (HB.out.trans (h3.mono HB.out.size)); clear ha hb hc h3
  have hw1 := HB.out.size
  refine (num_gen _ _ _ _ _ _ HN.out HA.out HLL.out).mono ?_
  rintro e w2 ⟨rfl, ha2, hg2⟩
  have HA2 := hid ha2; have HB3 := hid (HB2.out.turned hg2 (by omega)); have HC2 := hid (HC.out.turned hg2 (by omega)); have H4 := hid (H3.out.trans (turned_below_of hg2 H3.out.size hw1)); clear ha2 hg2
  go_wp2_with fail
  refine (left_gen _ _ _ HA2.out).mono ?_
  rintro e w' ⟨rfl, rfl⟩
  go_wp2_with fail
  refine (within_gen _ _ _ _ _ _ _ _ HW.out HB3.out HLL.out).mono ?_
  rintro e w3 ⟨rfl, hb3, hg3⟩
  have HB4 := hid hb3; have HC3 := hid (HC2.out.turned hg3 (by omega)); have H5 := hid (H4.out.trans (turned_below_of hg3 H4.out.size (by omega))); clear hb3 hg3
  go_wp2_with fail
  refine (left_gen _ _ _ HB4.out).mono ?_
  rintro e w' ⟨rfl, rfl⟩
  go_wp2_with fail
  refine (text_gen _ _ _ _ _ HT.out HC3.out HLL.out).mono ?_
  rintro e w4 ⟨rfl, hc4, hb4⟩
  have HC4 := hid (rdn_size hc4); have H6 := hid (H5.out.trans (hb4.mono H5.out.size)); clear hc4 hb4
  go_wp2_with fail
  refine (left_gen _ _ _ HC4.out).mono ?_
  rintro e w' ⟨rfl, rfl⟩
  go_wp2
  go_ret
  exact ⟨rfl, H6.out⟩

set_option maxRecDepth 100000 in
set_option maxHeartbeats 8000000 in
/-- At least four bytes; Text answers an error. -/
theorem reads_bad (S : ByteArray) (x y : Int) (w : World) (hl : 4 ≤ S.size) (hl3 : S.size ≤ 300) (Vb Eb nb Et : Int) (Z : Int) (hZ : head4 S.data.toList = Z) (hb1 : -2147483648 ≤ Z) (hb2 : Z ≤ 2147483647)
    (hW : WRes S.data.toList x y Vb Eb nb) (hT : TBad S.data.toList y Et)
    (hnb : (Eb = 3 ∧ False) ∨ (Eb = 2 ∧ Vb = 0 ∧ nb = S.size ∧ (Z < x ∨ (¬ Z < x ∧ y < Z))) ∨ (Eb = 0 ∧ Vb = Z ∧ nb = S.size - 4 ∧ x ≤ Z ∧ Z ≤ y))
    (hct : (Et = 2 ∧ (Z < 0 ∨ (¬ Z < 0 ∧ y < Z))) ∨ (Et = 3 ∧ ¬ Z < 0 ∧ ¬ y < Z ∧ (S.size : Int) - 4 < Z)) :
    Calls Try.prog 4 #[.string S, .int .i64 x, .int .i64 y] w fun e w' => e = .returned (.bool true) ∧ Below w.heap.size w w' := by
  have hs := size_list S
  have HLL : Hid (S.data.toList.length ≤ 1000000000000) := hid (by omega)
  have HN : Hid (WRes S.data.toList (-2147483648) 2147483647 Z 0 (S.size - 4)) := hid (by rw [hs, ← hZ]; exact .ok (by omega) (by omega) (by omega))
  have hG := get_ok S
  have HG : Hid (∀ w : World, Calls Try.prog 19 #[.string S] w fun e w' => e = .returned (.tuple #[.int .i64 Z, .bool true]) ∧ w = w') := hid (fun w => by rw [← hZ]; exact hG w hl (by omega))
  have HW := hid hW; have HT := hid hT
  clear hs hZ hW hT hG
  rcases hnb with ⟨_, h⟩ | ⟨rfl, rfl, rfl, h | ⟨h, h'⟩⟩ | ⟨rfl, rfl, rfl, h, h'⟩
  · exact h.elim
  all_goals
    rcases hct with ⟨rfl, k | ⟨k, k'⟩⟩ | ⟨rfl, k, k', k''⟩
    all_goals
      first
      | (exfalso; omega)
      | (go_enter Try.func4, Try.ntmps4
         go_wp2_with fail
         refine (awake1 _).mono ?_
         rintro e w1 ⟨rfl, hb1⟩
         have HB := hid hb1; clear hb1
         go_wp2_with (first
           | (go_at_call 19; refine (HG.out _).mono ?_; rintro e w' ⟨rfl, rfl⟩)
           | (go_at_call 14; refine (new_any _ _).mono ?_; rintro e w' ⟨rfl, rfl⟩))
         obtain ⟨ha, hb, hc, h3⟩ := threeR w1 S _ rfl
         have HA := hid ha; have HB2 := hid hb; have HC := hid hc; have H3 := hid (HB.out.trans (h3.mono HB.out.size)); clear ha hb hc h3
         have hw1 := HB.out.size
         refine (num_gen _ _ _ _ _ _ HN.out HA.out HLL.out).mono ?_
         rintro e w2 ⟨rfl, ha2, hg2⟩
         have HA2 := hid ha2; have HB3 := hid (HB2.out.turned hg2 (by omega)); have HC2 := hid (HC.out.turned hg2 (by omega)); have H4 := hid (H3.out.trans (turned_below_of hg2 H3.out.size hw1)); clear ha2 hg2
         go_wp2_with fail
         refine (left_gen _ _ _ HA2.out).mono ?_
         rintro e w' ⟨rfl, rfl⟩
         go_wp2_with fail
         refine (within_gen _ _ _ _ _ _ _ _ HW.out HB3.out HLL.out).mono ?_
         rintro e w3 ⟨rfl, hb3, hg3⟩
         have HB4 := hid hb3; have HC3 := hid (HC2.out.turned hg3 (by omega)); have H5 := hid (H4.out.trans (turned_below_of hg3 H4.out.size (by omega))); clear hb3 hg3
         go_wp2_with fail
         refine (left_gen _ _ _ HB4.out).mono ?_
         rintro e w' ⟨rfl, rfl⟩
         go_wp2_with fail
         refine (text_gen _ _ _ _ _ HT.out HC3.out HLL.out).mono ?_
         rintro e w4 ⟨rfl, hc4, hb4⟩
         have HC4 := hid (rdn_size hc4); have H6 := hid (H5.out.trans (hb4.mono H5.out.size)); clear hc4 hb4
         go_wp2_with fail
         refine (left_gen _ _ _ HC4.out).mono ?_
         rintro e w' ⟨rfl, rfl⟩
         go_wp2
         go_ret
         exact ⟨rfl, H6.out⟩)

theorem text_gen_ok (b : Nat) (S T : ByteArray) (z : Nat) (y : Int) (w : World) (hz : head4 S.data.toList = z) (hy : (z : Int) ≤ y) (hzl : z + 4 ≤ S.size) (hT : S.extract 4 (4 + z) = T) (h1 : RdAt w b 0 S.data.toList) (hl : S.size ≤ 1000000000000) :
    Calls Try.prog 16 #[.pointer (some ⟨b, 0, none⟩), .int .i64 y] w fun e w' => e = .returned (.tuple #[.string T, .int .i64 0]) ∧ RdN w' b (S.size - 4 - z) ∧ w.grownBy w' (some b) := by
  have hs := size_list S
  have eT : T = ⟨((S.data.toList.drop 4).take z).toArray⟩ := by
    rw [← hT, ← mk_data (S.extract 4 (4 + z)), ← mk_data S, extract_mk, mk_data]
    congr 1
    simp [List.drop_take]
  rw [eT]
  refine (text_ok b 0 S.data.toList z y w (by omega) hz hy (by omega) h1 (by omega)).mono ?_
  rintro e w' ⟨rfl, w1, rfl, hb⟩
  refine ⟨rfl, ⟨S.data.toList.drop (4 + z), (h1.below hb).set _, by rw [List.length_drop]; omega⟩, turned_set (p := ⟨b, 0, none⟩) (turned_below hb _) (.inl rfl) _⟩

set_option maxRecDepth 100000 in
set_option maxHeartbeats 8000000 in
/-- At least four bytes; Text answers a text. -/
theorem reads_ok (S : ByteArray) (x y : Int) (w : World) (hl : 4 ≤ S.size) (hl3 : S.size ≤ 300) (Vb Eb nb : Int) (z : Nat) (hZ : head4 S.data.toList = z) (hb2 : (z : Int) ≤ 2147483647)
    (hW : WRes S.data.toList x y Vb Eb nb) (hy : (z : Int) ≤ y) (hzl : z + 4 ≤ S.size)
    (hnb : (Eb = 2 ∧ Vb = 0 ∧ nb = S.size ∧ (z : Int) < x) ∨ (Eb = 0 ∧ Vb = z ∧ nb = S.size - 4 ∧ x ≤ z)) :
    Calls Try.prog 4 #[.string S, .int .i64 x, .int .i64 y] w fun e w' => e = .returned (.bool true) ∧ Below w.heap.size w w' := by
  have hs := size_list S
  have HLL : Hid (S.data.toList.length ≤ 1000000000000) := hid (by omega)
  have HN : Hid (WRes S.data.toList (-2147483648) 2147483647 z 0 (S.size - 4)) := hid (by rw [hs, ← hZ]; exact .ok (by omega) (by omega) (by omega))
  have hG := get_ok S
  have HG : Hid (∀ w : World, Calls Try.prog 19 #[.string S] w fun e w' => e = .returned (.tuple #[.int .i64 z, .bool true]) ∧ w = w') := hid (fun w => by rw [← hZ]; exact hG w hl (by omega))
  have HW := hid hW; have HZ := hid hZ
  obtain ⟨T, hT⟩ : ∃ T, S.extract 4 (4 + z) = T := ⟨_, rfl⟩
  have HT := hid hT
  clear hs hZ hW hG
  rcases hnb with ⟨rfl, rfl, rfl, h⟩ | ⟨rfl, rfl, rfl, h⟩
  all_goals
    go_enter Try.func4, Try.ntmps4
    go_wp2_with fail
    refine (awake1 _).mono ?_
    rintro e w1 ⟨rfl, hb1⟩
    have HB := hid hb1; clear hb1
    go_wp2_with (first
      | (go_at_call 19; refine (HG.out _).mono ?_; rintro e w' ⟨rfl, rfl⟩)
      | (go_at_call 14; refine (new_any _ _).mono ?_; rintro e w' ⟨rfl, rfl⟩))
    obtain ⟨ha, hb, hc, h3⟩ := threeR w1 S _ rfl
    have HA := hid ha; have HB2 := hid hb; have HC := hid hc; have H3 := hid (HB.out.trans (h3.mono HB.out.size)); clear ha hb hc h3
    have hw1 := HB.out.size
    refine (num_gen _ _ _ _ _ _ HN.out HA.out HLL.out).mono ?_
    rintro e w2 ⟨rfl, ha2, hg2⟩
    have HA2 := hid ha2; have HB3 := hid (HB2.out.turned hg2 (by omega)); have HC2 := hid (HC.out.turned hg2 (by omega)); have H4 := hid (H3.out.trans (turned_below_of hg2 H3.out.size hw1)); clear ha2 hg2
    go_wp2_with fail
    refine (left_gen _ _ _ HA2.out).mono ?_
    rintro e w' ⟨rfl, rfl⟩
    go_wp2_with fail
    refine (within_gen _ _ _ _ _ _ _ _ HW.out HB3.out HLL.out).mono ?_
    rintro e w3 ⟨rfl, hb3, hg3⟩
    have HB4 := hid hb3; have HC3 := hid (HC2.out.turned hg3 (by omega)); have H5 := hid (H4.out.trans (turned_below_of hg3 H4.out.size (by omega))); clear hb3 hg3
    go_wp2_with fail
    refine (left_gen _ _ _ HB4.out).mono ?_
    rintro e w' ⟨rfl, rfl⟩
    go_wp2_with fail
    refine (text_gen_ok _ S T z y _ HZ.out hy hzl HT.out HC3.out (by omega)).mono ?_
    rintro e w4 ⟨rfl, hc4, hg4⟩
    have HC4 := hid hc4; have H6 := hid (H5.out.trans (turned_below_of hg4 H5.out.size (by omega))); clear hc4 hg4
    go_wp2_with fail
    refine (left_gen _ _ _ HC4.out).mono ?_
    rintro e w' ⟨rfl, rfl⟩
    go_wp2
    go_ret
    exact ⟨rfl, H6.out⟩

theorem law_reads (S : ByteArray) (x y : Int) (w : World) (hs : S.size ≤ maxLen) (_ : (Lit.int .i64 x).wf = true) (_ : (Lit.int .i64 y).wf = true) :
    Calls Try.prog 4 #[.string S, .int .i64 x, .int .i64 y] w fun e w' => e = .returned (.bool true) ∧ Below w.heap.size w w' := by
  by_cases h1 : 300 < S.size
  · exact reads_long S x y w h1 hs
  by_cases h2 : S.size < 4
  · exact reads_short S x y w h2
  have hsl := size_list S
  obtain ⟨Z, hZ⟩ : ∃ Z, head4 S.data.toList = Z := ⟨_, rfl⟩
  have hbd : -2147483648 ≤ Z ∧ Z ≤ 2147483647 := by rw [← hZ]; exact dec4_bd _ _ _ _
  have h4 : 4 ≤ S.data.toList.length := by omega
  have low : ∀ a : Int, Z < a → head4 S.data.toList < a := fun a h => by rw [hZ]; exact h
  have n2 : ∀ a : Int, ¬ Z < a → ¬ head4 S.data.toList < a := fun a h => by rw [hZ]; exact h
  have up : ∀ a : Int, a < Z → a < head4 S.data.toList := fun a h => by rw [hZ]; exact h
  have n3 : ∀ a : Int, ¬ a < Z → ¬ a < head4 S.data.toList := fun a h => by rw [hZ]; exact h
  obtain ⟨Vb, Eb, nb, hW, hnb⟩ : ∃ Vb Eb nb, WRes S.data.toList x y Vb Eb nb ∧
      ((Eb = 3 ∧ False) ∨ (Eb = 2 ∧ Vb = 0 ∧ nb = S.size ∧ (Z < x ∨ (¬ Z < x ∧ y < Z))) ∨ (Eb = 0 ∧ Vb = Z ∧ nb = S.size - 4 ∧ x ≤ Z ∧ Z ≤ y)) := by
    by_cases k1 : Z < x
    · exact ⟨_, _, _, .low h4 (low x k1), .inr (.inl ⟨rfl, rfl, by rw [hsl], .inl k1⟩)⟩
    by_cases k2 : y < Z
    · exact ⟨_, _, _, .high h4 (n2 x k1) (up y k2), .inr (.inl ⟨rfl, rfl, by rw [hsl], .inr ⟨k1, k2⟩⟩)⟩
    · exact ⟨_, _, _, .ok h4 (by have := n2 x k1; omega) (by have := n3 y k2; omega), .inr (.inr ⟨rfl, hZ, by rw [hsl], by omega, by omega⟩)⟩
  by_cases k1 : Z < 0
  · exact reads_bad S x y w (by omega) (by omega) Vb Eb nb 2 Z hZ hbd.1 hbd.2 hW (.low h4 (low 0 k1)) hnb (.inl ⟨rfl, .inl k1⟩)
  by_cases k2 : y < Z
  · exact reads_bad S x y w (by omega) (by omega) Vb Eb nb 2 Z hZ hbd.1 hbd.2 hW (.high h4 (n2 0 k1) (up y k2)) hnb (.inl ⟨rfl, .inr ⟨k1, k2⟩⟩)
  by_cases k3 : (S.size : Int) - 4 < Z
  · exact reads_bad S x y w (by omega) (by omega) Vb Eb nb 3 Z hZ hbd.1 hbd.2 hW (.far h4 (n2 0 k1) (n3 y k2) (by rw [hZ, ← hsl]; exact k3)) hnb (.inr ⟨rfl, k1, k2, k3⟩)
  obtain ⟨z, rfl⟩ := Int.eq_ofNat_of_zero_le (show 0 ≤ Z by omega)
  refine reads_ok S x y w (by omega) (by omega) Vb Eb nb z hZ hbd.2 hW (by omega) (by omega) ?_
  rcases hnb with ⟨_, h⟩ | ⟨h1, h2, h3, h | ⟨_, h⟩⟩ | ⟨h1, h2, h3, h, _⟩
  · exact h.elim
  · exact .inl ⟨h1, h2, h3, h⟩
  · exact absurd h k2
  · exact .inr ⟨h1, h2, h3, h⟩

end Go.Proofs.Ytimdgbklfldfkaa
