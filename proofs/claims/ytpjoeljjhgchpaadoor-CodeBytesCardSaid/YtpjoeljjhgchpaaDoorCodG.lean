/- Layer 4, code: bytes that are read: numbers, Get. -/
import Derived.Test.YtpjoeljjhgchpaaDoorCodB
import Derived.Test.YtpjoeljjhgchpaaDoorOctR
namespace Go.Proofs.YtpjoeljjhgchpaaDoor
open Go.RowKit Go.Lib
set_option linter.unusedVariables false

/-- What reading makes: an error; a program, and what is left. -/
inductive RdO
  | bad (e : Int)
  | good (l : List (Int × Int)) (rest : List UInt8)

/-- So many instructions are read behind q. -/
def rdA : Nat → List (Int × Int) → List UInt8 → RdO
  | 0, q, s => .good q s
  | n + 1, q, s => if s.length < 4 then .bad 3 else if head4 s < 0 ∨ 17 < head4 s then .bad 2 else if s.length < 8 then .bad 3 else rdA n (q ++ [(head4 s, head4 (s.drop 4))]) (s.drop 8)

def numR (s : List UInt8) : RdO := if s.length < 4 then .bad 3 else if head4 s < 0 ∨ 24 < head4 s then .bad 2 else rdA (head4 s).toNat [] (s.drop 4)

def getR (s : List UInt8) : RdO := match numR s with
  | .bad e => .bad e
  | .good l rest => if fitsL l then .good l rest else .bad 4

theorem rdA_put : ∀ (l q : List (Int × Int)) (S : List UInt8), l.all rightI = true → rdA l.length q (encs (l.flatMap fun x => [x.1, x.2]) ++ S) = .good (q ++ l) S
  | [], q, S, _ => by simp [rdA, encs]
  | (o, a) :: l, q, S, h => by
    rw [List.all_cons, Bool.and_eq_true] at h
    have hb := rightI_bounds h.1
    obtain ⟨n1, n2⟩ := right_num32 h.1
    have e : encs (((o, a) :: l).flatMap fun x => [x.1, x.2]) ++ S = enc32 o ++ (enc32 a ++ (encs (l.flatMap fun x => [x.1, x.2]) ++ S)) := by
      simp [encs]
    rw [e, List.length_cons, rdA]
    have h1 : head4 (enc32 o ++ (enc32 a ++ (encs (l.flatMap fun x => [x.1, x.2]) ++ S))) = o := head_enc o n1 _
    have h2 : (enc32 o ++ (enc32 a ++ (encs (l.flatMap fun x => [x.1, x.2]) ++ S))).drop 4 = enc32 a ++ (encs (l.flatMap fun x => [x.1, x.2]) ++ S) := List.drop_left' (enc32_len o)
    have h3 : (enc32 o ++ (enc32 a ++ (encs (l.flatMap fun x => [x.1, x.2]) ++ S))).drop 8 = encs (l.flatMap fun x => [x.1, x.2]) ++ S := by
      rw [← List.append_assoc]
      exact List.drop_left' (by rw [List.length_append, enc32_len, enc32_len])
    have h4 : head4 (enc32 a ++ (encs (l.flatMap fun x => [x.1, x.2]) ++ S)) = a := head_enc a n2 _
    have hlen : 8 ≤ (enc32 o ++ (enc32 a ++ (encs (l.flatMap fun x => [x.1, x.2]) ++ S))).length := by
      rw [List.length_append, List.length_append, enc32_len, enc32_len]; omega
    have b1 : 0 ≤ o := hb.1
    have b2 : o ≤ 17 := hb.2.1
    rw [if_neg (by omega), h1, if_neg (by omega), if_neg (by omega), h2, h3, h4, rdA_put l _ S h.2]
    simp

/-- What 'numbers' answers; what Get answers. -/
inductive NumO (s : List UInt8) : List (Int × Int) → Int → List UInt8 → Prop
  | good (l : List (Int × Int)) (rest : List UInt8) : numR s = .good l rest → NumO s l 0 rest
  | bad (e : Int) : numR s = .bad e → e ≠ 0 → NumO s [] e []

inductive GetO (s : List UInt8) : List (Int × Int) → Int → List UInt8 → Prop
  | good (l : List (Int × Int)) (rest : List UInt8) : getR s = .good l rest → GetO s l 0 rest
  | bad (e : Int) : getR s = .bad e → e ≠ 0 → GetO s [] e []

theorem GetO.det {s : List UInt8} {l l' : List (Int × Int)} {e e' : Int} {r r' : List UInt8} (h : GetO s l e r) (h' : GetO s l' e' r') : l = l' ∧ e = e' ∧ r = r' := by
  cases h with
  | good _ _ h => cases h' with
    | good _ _ h' => rw [h] at h'; injection h' with h1 h2; exact ⟨h1, rfl, h2⟩
    | bad _ h' => rw [h] at h'; cases h'
  | bad _ h => cases h' with
    | good _ _ h' => rw [h] at h'; cases h'
    | bad _ h' => rw [h] at h'; injection h' with h1; exact ⟨rfl, h1, rfl⟩

theorem numR_short {s : List UInt8} (h : s.length < 4) : numR s = .bad 3 := by unfold numR; rw [if_pos h]

theorem numR_range {s : List UInt8} {z : Int} (h : 4 ≤ s.length) (hz : head4 s = z) (hx : z < 0 ∨ 24 < z) : numR s = .bad 2 := by unfold numR; rw [if_neg (by omega), hz, if_pos hx]

theorem numR_ok {s : List UInt8} {n : Nat} (h : 4 ≤ s.length) (hz : head4 s = n) (hx : n ≤ 24) : numR s = rdA n [] (s.drop 4) := by unfold numR; rw [if_neg (by omega), hz, if_neg (by omega), Int.toNat_natCast]

theorem rdA_short {m : Nat} {q : List (Int × Int)} {s : List UInt8} (h : s.length < 4) : rdA (m + 1) q s = .bad 3 := by rw [rdA, if_pos h]

theorem rdA_range {m : Nat} {q : List (Int × Int)} {s : List UInt8} {z : Int} (h : 4 ≤ s.length) (hz : head4 s = z) (hx : z < 0 ∨ 17 < z) : rdA (m + 1) q s = .bad 2 := by rw [rdA, if_neg (by omega), hz, if_pos hx]

theorem rdA_short8 {m : Nat} {q : List (Int × Int)} {s : List UInt8} {z : Int} (h : 4 ≤ s.length) (hz : head4 s = z) (h0 : 0 ≤ z) (h1 : z ≤ 17) (h8 : s.length < 8) : rdA (m + 1) q s = .bad 3 := by rw [rdA, if_neg (by omega), hz, if_neg (by omega), if_pos h8]

theorem rdA_ok {m : Nat} {q : List (Int × Int)} {s : List UInt8} {z a : Int} (h8 : 8 ≤ s.length) (hz : head4 s = z) (h0 : 0 ≤ z) (h1 : z ≤ 17) (ha : head4 (s.drop 4) = a) : rdA (m + 1) q s = rdA m (q ++ [(z, a)]) (s.drop 8) := by rw [rdA, if_neg (by omega), hz, if_neg (by omega), if_neg (by omega), ha]

theorem getR_of {s : List UInt8} {l : List (Int × Int)} {r : List UInt8} (h : numR s = .good l r) (hf : fitsL l = true) : getR s = .good l r := by
  unfold getR
  rw [h]
  show (if fitsL l = true then RdO.good l r else RdO.bad 4) = _
  rw [if_pos hf]

theorem getR_not {s : List UInt8} {l : List (Int × Int)} {r : List UInt8} (h : numR s = .good l r) (hf : fitsL l = false) : getR s = .bad 4 := by
  unfold getR
  rw [h]
  show (if fitsL l = true then RdO.good l r else RdO.bad 4) = _
  rw [hf]; rfl

theorem getR_bad {s : List UInt8} {e : Int} (h : numR s = .bad e) : getR s = .bad e := by
  unfold getR
  rw [h]

theorem getR_put {l : List (Int × Int)} (h : fitsL l = true) (S : List UInt8) : getR (encs (numsL l) ++ S) = .good l S := by
  obtain ⟨h1, h2⟩ := (fitsL_iff l).1 h
  have e : encs (numsL l) ++ S = enc32 (l.length : Int) ++ (encs (l.flatMap fun x => [x.1, x.2]) ++ S) := by
    unfold numsL; rw [encs_cons, List.append_assoc]
  obtain ⟨n, hn⟩ : ∃ n, l.length = n := ⟨_, rfl⟩
  have hp := rdA_put l [] S h2
  rw [hn] at hp e h1
  obtain ⟨r, hr⟩ : ∃ r, encs (l.flatMap fun x => [x.1, x.2]) ++ S = r := ⟨_, rfl⟩
  rw [hr] at hp e
  have h3 : head4 (enc32 (n : Int) ++ r) = (n : Int) := head_enc _ ⟨by omega, by omega⟩ _
  have h4 : (enc32 (n : Int) ++ r).drop 4 = r := List.drop_left' (enc32_len _)
  have hlen : 4 ≤ (enc32 (n : Int) ++ r).length := by rw [List.length_append, enc32_len]; omega
  rw [e]
  refine getR_of ?_ h
  rw [numR_ok hlen h3 h1, h4, hp, List.nil_append]

section
variable {w : World} {b : Nat} {l : List UInt8}

theorem wi_ok (x y z : Int) (h4 : 4 ≤ l.length) (hz : Hid (head4 l = z)) (hx : x ≤ z) (hy : z ≤ y) (h1 : RdAt w b 0 l) (hl : l.length ≤ 1000000000000) :
    Calls Tryd.prog 47 #[.pointer (some ⟨b, 0, none⟩), .int .i64 x, .int .i64 y] w fun e w' => e = .returned (.tuple #[.int .i64 z, .int .i64 0]) ∧ RdAt w' b 0 (l.drop 4) ∧ w.grownBy w' (some b) := by
  have := within_ok b 0 l x y w h4 (by rw [hz.out]; exact hx) (by rw [hz.out]; exact hy) h1 hl
  rw [hz.out] at this
  refine this.mono ?_
  rintro e w' ⟨rfl, n, rfl⟩
  exact ⟨rfl, (h1.drewN n).set _, turned_set (turned_drewN (turned_refl w (some b)) n) (.inl rfl) _⟩

theorem wi_bad (x y z : Int) (h4 : 4 ≤ l.length) (hz : Hid (head4 l = z)) (hx : z < x ∨ (¬ z < x ∧ y < z)) (h1 : RdAt w b 0 l) (hl : l.length ≤ 1000000000000) :
    Calls Tryd.prog 47 #[.pointer (some ⟨b, 0, none⟩), .int .i64 x, .int .i64 y] w fun e w' => e = .returned (.tuple #[.int .i64 0, .int .i64 2]) ∧ w.grownBy w' (some b) := by
  refine (within_bad b 0 l x y w h4 (by rw [hz.out]; exact hx) h1 hl).mono ?_
  rintro e w' ⟨rfl, n, rfl⟩
  exact ⟨rfl, turned_drewN (turned_refl w (some b)) n⟩

theorem wi_short (x y : Int) (h4 : l.length < 4) (h1 : RdAt w b 0 l) :
    Calls Tryd.prog 47 #[.pointer (some ⟨b, 0, none⟩), .int .i64 x, .int .i64 y] w fun e w' => e = .returned (.tuple #[.int .i64 0, .int .i64 3]) ∧ w.grownBy w' (some b) := by
  refine (within_short b 0 l x y w h4 h1).mono ?_
  rintro e w' ⟨rfl, rfl⟩
  exact ⟨rfl, turned_refl w (some b)⟩

theorem rn_ok (z : Int) (h4 : 4 ≤ l.length) (hz : Hid (head4 l = z)) (h1 : RdAt w b 0 l) (hl : l.length ≤ 1000000000000) :
    Calls Tryd.prog 48 #[.pointer (some ⟨b, 0, none⟩)] w fun e w' => e = .returned (.tuple #[.int .i64 z, .int .i64 0]) ∧ RdAt w' b 0 (l.drop 4) ∧ w.grownBy w' (some b) := by
  have hb : -2147483648 ≤ z ∧ z ≤ 2147483647 := by rw [← hz.out]; exact dec4_bd _ _ _ _
  exact rnum_of b 0 w z 0 (fun w' => RdAt w' b 0 (l.drop 4) ∧ w.grownBy w' (some b)) (wi_ok _ _ z h4 hz hb.1 hb.2 h1 hl)

theorem rn_short (h4 : l.length < 4) (h1 : RdAt w b 0 l) :
    Calls Tryd.prog 48 #[.pointer (some ⟨b, 0, none⟩)] w fun e w' => e = .returned (.tuple #[.int .i64 0, .int .i64 3]) ∧ w.grownBy w' (some b) :=
  rnum_of b 0 w 0 3 (fun w' => w.grownBy w' (some b)) (wi_short _ _ h4 h1)

end

/-- s is left in box b; q was read into v, behind all that was there. -/
structure GSt (W : World) (b : Nat) (q : List (Int × Int)) (v : Value) (s : List UInt8) (w : World) : Prop where
  lt : b < W.heap.size
  rd : RdAt w b 0 s
  own : w.ownsRow W.heap.size 27 2 v q.length (insCells q)
  grw : W.grownBy w (some b)

section
variable {W w w' : World} {b : Nat} {q : List (Int × Int)} {v : Value} {s s' : List UInt8}

theorem GSt.read (h : GSt W b q v s w) (hg : w.grownBy w' (some b)) (hr : RdAt w' b 0 s') : GSt W b q v s' w' := by
  refine ⟨h.lt, hr, h.own.kept hg ?_, turned_trans h.grw hg⟩
  cases hv : v.ownBlock with
  | none => exact .inl rfl
  | some k => exact .inr (by intro e; injection e with e; have := (h.own.lt k hv).1; have := h.lt; omega)

theorem GSt.below (h : GSt W b q v s w) (hb : Below w.heap.size w w') : GSt W b q v s w' :=
  h.read (turned_below hb _) (h.rd.below hb)

theorem GSt.app {v' : Value} {o a : Int} (h : GSt W b q v s w) (hg : w.grownBy w' v.ownBlock) (ho : w'.ownsRow W.heap.size 27 2 v' (q.length + 1) (insCells q ++ [.int .i64 o, .int .i64 a])) : GSt W b (q ++ [(o, a)]) v' s w' := by
  have hl := World.block_lt_of_cell? w _ h.rd.1
  have hne : some b ≠ v.ownBlock := by
    intro e
    have := (h.own.lt b e.symm).1
    have := h.lt
    omega
  have hbb := hg.block b hl hne
  refine ⟨h.lt, ⟨hg.cell h.rd.1 hne, (World.frozen?_of_block (a := ⟨b, 0, none⟩) hbb).trans h.rd.2⟩, ?_, ?_⟩
  · rw [insCells_snoc, List.length_append]
    exact ho
  · refine ⟨hg.os.trans h.grw.os, hg.tape.trans h.grw.tape, hg.output.trans h.grw.output, Nat.le_trans h.grw.size hg.size, fun i hi hne => (hg.block i (Nat.lt_of_lt_of_le hi h.grw.size) ?_).trans (h.grw.block i hi hne)⟩
    intro e
    have := (h.own.lt i e.symm).1
    omega

end

set_option maxRecDepth 100000 in
set_option maxHeartbeats 2000000 in
theorem numbers_any (b : Nat) (s : List UInt8) (hs : s.length ≤ 1000000) (w : World) (h : RdAt w b 0 s) :
    Calls Tryd.prog 34 #[.pointer (some ⟨b, 0, none⟩)] w fun e w' => (∃ v l E rest, e = .returned (.tuple #[v, .int .i64 E]) ∧ NumO s l E rest ∧ w'.ownsRow w.heap.size 27 2 v l.length (insCells l) ∧ (E = 0 → RdAt w' b 0 rest)) ∧ w.grownBy w' (some b) := by
  have hbl := World.block_lt_of_cell? w _ h.1
  simp only at hbl
  have H := hid h; clear h
  have HS := hid hs
  by_cases h4 : s.length < 4
  · have HN := hid (numR_short h4)
    have H4 := hid h4; clear h4 hs
    go_enter Tryd.func34, Tryd.ntmps34
    go_wp2_with fail
    refine (wi_short 0 24 H4.out H.out).mono ?_
    rintro e w1 ⟨rfl, hg⟩
    have HG := hid hg; clear hg
    go_wp2_with fail
    go_ret2
    exact ⟨⟨_, [], 3, [], rfl, .bad 3 HN.out (by decide), World.ownsRow_nil _ _ _ _, fun e => by cases e⟩, HG.out⟩
  have H4 : Hid (4 ≤ s.length) := hid (by omega)
  clear h4 hs
  obtain ⟨z, hz⟩ : ∃ z, head4 s = z := ⟨_, rfl⟩
  have HZ := hid hz; clear hz
  by_cases hx : z < 0 ∨ 24 < z
  · have HN := hid (numR_range H4.out HZ.out hx)
    have HX : Hid (z < 0 ∨ (¬ z < 0 ∧ 24 < z)) := hid (by omega)
    clear hx
    go_enter Tryd.func34, Tryd.ntmps34
    go_wp2_with fail
    refine (wi_bad 0 24 z H4.out HZ (by have := HX.out; omega) H.out (by have := HS.out; omega)).mono ?_
    rintro e w1 ⟨rfl, hg⟩
    have HG := hid hg; clear hg
    go_wp2_with fail
    go_ret2
    exact ⟨⟨_, [], 2, [], rfl, .bad 2 HN.out (by decide), World.ownsRow_nil _ _ _ _, fun e => by cases e⟩, HG.out⟩
  obtain ⟨n, rfl⟩ : ∃ n : Nat, z = (n : Int) := ⟨z.toNat, by omega⟩
  have hn : n ≤ 24 := by omega
  have HN := hid (numR_ok H4.out HZ.out hn)
  clear hx
  obtain ⟨i0, hi, hz0, hz1, hz2⟩ := info_parts insInfo
  go_enter Tryd.func34, Tryd.ntmps34
  go_wp2_with fail
  refine (wi_ok 0 24 (n : Int) H4.out HZ (by omega) (by omega) H.out (by have := HS.out; omega)).mono ?_
  rintro e w1 ⟨rfl, hr, hg⟩
  have HG : Hid (GSt w b [] (.slice none 0 0) (s.drop 4) w1) := hid ⟨hbl, hr, World.ownsRow_nil _ _ _ _, hg⟩
  clear hr hg
  go_wp2_with fail
  go_loopw [6, 19] (fun v i wr => ∃ (k : Nat) (q : List (Int × Int)) (s' : List UInt8), k ≤ n ∧ i = .int .i64 k ∧ q.length = k ∧ Hid (GSt w b q v s' wr) ∧ Hid (numR s = rdA (n - k) q s') ∧ Hid (s'.length ≤ 1000000)) (fun _ i _ => n - (RowKit.intOf i).toNat)
  case atStart => exact ⟨0, [], s.drop 4, Nat.zero_le _, rfl, rfl, HG, HN, hid (by have := HS.out; rw [List.length_drop]; omega)⟩
  case round =>
    clear HG
    obtain ⟨k, q, s', hk, rfl, hq, HG, HR, HL⟩ := hrel
    by_cases hlt : k < n
    · obtain ⟨m, hm⟩ : ∃ m, n - k = m + 1 := ⟨n - k - 1, by omega⟩
      have HRm : Hid (numR s = rdA (m + 1) q s') := hid (by rw [← hm]; exact HR.out)
      have hmk : n - (k + 1) = m := by omega
      have HMK := hid hmk
      clear hm hmk
      by_cases g4 : s'.length < 4
      · have HE := hid ((HRm.out).trans (rdA_short g4))
        have G4 := hid g4; clear g4
        go_wp2_with fail
        refine (wi_short 0 17 G4.out HG.out.rd).mono ?_
        rintro e w2 ⟨rfl, hg⟩
        have HG2 := hid (turned_trans HG.out.grw hg); clear hg
        go_wp2_with fail
        go_ret2
        exact ⟨⟨_, [], 3, [], rfl, .bad 3 HE.out (by decide), World.ownsRow_nil _ _ _ _, fun e => by cases e⟩, HG2.out⟩
      have G4 : Hid (4 ≤ s'.length) := hid (by omega)
      clear g4
      obtain ⟨o, ho⟩ : ∃ z, head4 s' = z := ⟨_, rfl⟩
      have HO := hid ho; clear ho
      by_cases hx : o < 0 ∨ 17 < o
      · have HE := hid ((HRm.out).trans (rdA_range G4.out HO.out hx))
        have HX : Hid (o < 0 ∨ (¬ o < 0 ∧ 17 < o)) := hid (by omega)
        clear hx
        go_wp2_with fail
        refine (wi_bad 0 17 o G4.out HO (by have := HX.out; omega) HG.out.rd (by have := HL.out; omega)).mono ?_
        rintro e w2 ⟨rfl, hg⟩
        have HG2 := hid (turned_trans HG.out.grw hg); clear hg
        go_wp2_with fail
        go_ret2
        exact ⟨⟨_, [], 2, [], rfl, .bad 2 HE.out (by decide), World.ownsRow_nil _ _ _ _, fun e => by cases e⟩, HG2.out⟩
      have HX : Hid (0 ≤ o ∧ o ≤ 17) := hid (by omega)
      clear hx
      go_wp2_with fail
      refine (wi_ok 0 17 o G4.out HO HX.out.1 HX.out.2 HG.out.rd (by have := HL.out; omega)).mono ?_
      rintro e w2 ⟨rfl, hr, hg⟩
      have HG2 := hid (HG.out.read hg hr); clear hr hg
      by_cases g8 : s'.length < 8
      · have HE := hid ((HRm.out).trans (rdA_short8 G4.out HO.out HX.out.1 HX.out.2 g8))
        have G8 : Hid ((s'.drop 4).length < 4) := hid (by rw [List.length_drop]; omega)
        clear g8
        go_wp2_with fail
        refine (rn_short G8.out HG2.out.rd).mono ?_
        rintro e w3 ⟨rfl, hg⟩
        have HG3 := hid (turned_trans HG2.out.grw hg); clear hg
        go_wp2_with fail
        go_ret2
        exact ⟨⟨_, [], 3, [], rfl, .bad 3 HE.out (by decide), World.ownsRow_nil _ _ _ _, fun e => by cases e⟩, HG3.out⟩
      have G8 : Hid (8 ≤ s'.length) := hid (by omega)
      clear g8
      obtain ⟨a, ha⟩ : ∃ z, head4 (s'.drop 4) = z := ⟨_, rfl⟩
      have HA := hid ha; clear ha
      have HE := hid ((HRm.out).trans (rdA_ok G8.out HO.out HX.out.1 HX.out.2 HA.out))
      go_wp2_with fail
      refine (rn_ok a (by have := G8.out; rw [List.length_drop]; omega) HA HG2.out.rd (by have := HL.out; rw [List.length_drop]; omega)).mono ?_
      rintro e w3 ⟨rfl, hr, hg⟩
      rw [List.drop_drop] at hr
      have HG3 := hid (HG2.out.read hg hr); clear hr hg
      have HG4 := hid (HG3.out.below ((Below.refl _ w3).alloc (Nat.le_refl _) (.cells #[.int .i64 o, .int .i64 a] 27)))
      have HC : Hid (∀ j u, [Value.int .i64 o, Value.int .i64 a][j]? = some u → (w3.alloc (.cells #[.int .i64 o, .int .i64 a] 27)).cell? ((⟨w3.heap.size, 0, none⟩ : Addr).add j) = some u) := hid (fun j u hj => new_cells _ #[.int .i64 o, .int .i64 a] _ j u (by simpa using hj))
      have hsz : w.heap.size ≤ (w3.alloc (.cells #[.int .i64 o, .int .i64 a] 27)).heap.size := HG4.out.grw.size
      have hql : q.length ≤ 24 := by omega
      go_wp2_with (at_builtin; refine wpList_append_own _ rfl _ _ 22 rfl w.heap.size 27 i0 (.agg #[.int .i64 0, .int .i64 0]) 2 16 Tryd.underlying22 hi hz0 hz1 hz2 rfl (by decide) _ _ _ rfl HG4.out.own ⟨w3.heap.size, 0, none⟩ 1 1 [.int .i64 o, .int .i64 a] rfl rfl HC.out (by intro u hu; simp at hu; rcases hu with rfl | rfl <;> rfl) (by unfold maxLen; omega) (by omega) hsz ?_; intro v' w5 hown5 hg5 _; have HG5 := hid (HG4.out.app hg5 hown5); clear hown5 hg5)
      go_roundw
      case rel => exact ⟨k + 1, q ++ [(o, a)], s'.drop 8, by omega, by go_num, by rw [List.length_append]; simp; omega, HG5, hid (by rw [HMK.out]; exact HE.out), hid (by have := HL.out; rw [List.length_drop]; omega)⟩
      case measure => simp [RowKit.intOf]; omega
    · have hkn : k = n := by omega
      have HE : Hid (numR s = .good q s') := hid (by
        have := HR.out
        rw [hkn, Nat.sub_self] at this
        exact this)
      clear hkn
      go_wp2_with fail
      go_ret2
      exact ⟨⟨_, q, 0, s', rfl, .good q s' HE.out, HG.out.own, fun _ => HG.out.rd⟩, HG.out.grw⟩

theorem rdA_len : ∀ (n : Nat) (q : List (Int × Int)) (s : List UInt8) {l : List (Int × Int)} {r : List UInt8}, rdA n q s = .good l r → l.length = q.length + n ∧ r.length + 8 * n = s.length
  | 0, q, s, l, r, h => by rw [rdA] at h; injection h with h1 h2; subst h1; subst h2; exact ⟨rfl, rfl⟩
  | n + 1, q, s, l, r, h => by
    rw [rdA] at h
    split at h
    · cases h
    · split at h
      · cases h
      · split at h
        · cases h
        · obtain ⟨h1, h2⟩ := rdA_len n _ _ h
          rw [List.length_append] at h1
          rw [List.length_drop] at h2
          simp only [List.length_cons, List.length_nil] at h1
          exact ⟨by omega, by omega⟩

theorem numR_len {s : List UInt8} {l : List (Int × Int)} {r : List UInt8} (h : numR s = .good l r) : l.length ≤ 1000000000000 := by
  unfold numR at h
  split at h
  · cases h
  · split at h
    · cases h
    · have := (rdA_len _ _ _ h).1
      simp only [List.length_nil] at this
      omega

theorem size_data (S : ByteArray) : S.data.toList.length = S.size := (size_list S).symm

theorem rdAt_str {w : World} {b : Nat} {S : ByteArray} (hc : w.cell? ⟨b, 0, none⟩ = some (.string S)) (hf : w.frozen? ⟨b, 0, none⟩ = false) : RdAt w b 0 S.data.toList := ⟨by rw [mk_data]; exact hc, hf⟩

set_option maxRecDepth 100000 in
set_option maxHeartbeats 2000000 in
theorem cget_any (b : Nat) (S : ByteArray) (hs : S.size ≤ 1000000) (w : World) (hc : w.cell? ⟨b, 0, none⟩ = some (.string S)) (hf : w.frozen? ⟨b, 0, none⟩ = false) :
    Calls Tryd.prog 18 #[.pointer (some ⟨b, 0, none⟩)] w fun e w' => (∃ v l E rest, e = .returned (.tuple #[v, .int .i64 E]) ∧ GetO S.data.toList l E rest ∧ SlV w' w'.heap.size v l ∧ (E = 0 → RdAt w' b 0 rest)) ∧ w.grownBy w' (some b) := by
  have hbl := World.block_lt_of_cell? w _ hc
  simp only at hbl
  have HBL := hid hbl
  have HR0 : Hid (RdAt (w.alloc (.cells #[.string S] 70)) w.heap.size 0 S.data.toList) := hid (by
    have := RdAt.new w S.data.toList 70
    rw [mk_data] at this
    exact this)
  have HSZ : Hid (S.data.toList.length ≤ 1000000) := hid (by rw [size_data]; exact hs)
  have HA : Hid (Below w.heap.size w (w.alloc (.cells #[.string S] 70))) := hid ((Below.refl _ w).alloc (Nat.le_refl _) _)
  go_enter Tryd.func18, Tryd.ntmps18
  go_wp2_with fail
  refine (numbers_any w.heap.size S.data.toList HSZ.out _ HR0.out).mono ?_
  rintro e w2 ⟨⟨v, l, E, rest, rfl, hno, hown, hrd⟩, hg⟩
  have HB : Hid (Below w.heap.size w w2) := hid (HA.out.trans (turned_below_of hg (by simp) (Nat.le_refl _)))
  have hc2 : w2.cell? ⟨b, 0, none⟩ = some (.string S) := ((bcell HB.out).1 _ _ hbl).trans hc
  have hf2 : w2.frozen? ⟨b, 0, none⟩ = false := ((bcell HB.out).2 _ _ hbl).trans hf
  have HO := hid hown
  have HRD := hid hrd
  clear hown hrd hg hc hf HR0 HA
  cases hno with
  | bad E hE hne =>
    have HE := hid (getR_bad hE); have HNE := hid hne
    have hb1 : (E != 0) = true := by simpa using hne
    clear hE
    go_wp2_with fail
    go_ret2
    exact ⟨⟨_, [], E, [], rfl, .bad E HE.out HNE.out, ⟨none, 0, rfl, Nat.le_refl _, fun h => absurd h (by simp)⟩, fun e => absurd e HNE.out⟩, turned_below HB.out _⟩
  | good l rest hE =>
    have HE := hid hE; clear hE
    obtain ⟨R, hR⟩ : ∃ R : ByteArray, (⟨rest.toArray⟩ : ByteArray) = R := ⟨_, rfl⟩
    have hRc : w2.cell? ⟨w.heap.size, 0, none⟩ = some (.string R) := by rw [← hR]; exact (HRD.out rfl).1
    have HRl : Hid (R.data.toList = rest) := hid (by rw [← hR])
    clear hR
    have HL : Hid (l.length ≤ 1000000000000) := hid (by
      obtain ⟨A, c, hv⟩ := own_slice HO.out
      subst hv
      rcases HO.out.2 with ⟨h, h0⟩ | ⟨g, cap, cur, h, _, _, hcc, hm, _⟩
      · omega
      · exact numR_len HE.out)
    have HV := hid (SlV.of_own HO.out)
    cases hfit : fitsL l with
    | false =>
      have HF := hid hfit; clear hfit
      go_wp2_with fail
      refine (fits_any _ l false HF HL.out _ HV.out).mono ?_
      rintro e w3 ⟨rfl, hb⟩
      have HB3 := hid (HB.out.trans (hb.mono HB.out.size)); clear hb
      go_wp2_with fail
      go_ret2
      exact ⟨⟨_, [], 4, [], rfl, .bad 4 (getR_not HE.out HF.out) (by decide), ⟨none, 0, rfl, Nat.le_refl _, fun h => absurd h (by simp)⟩, fun e => by cases e⟩, turned_below HB3.out _⟩
    | true =>
      have HF := hid hfit; clear hfit
      go_wp2_with fail
      refine (fits_any _ l true HF HL.out _ HV.out).mono ?_
      rintro e w3 ⟨rfl, hb⟩
      have HB3 := hid (HB.out.trans (hb.mono HB.out.size))
      obtain ⟨hcc, hff⟩ := bcell hb
      have hb2 : b < w2.heap.size := World.block_lt_of_cell? w2 _ hc2
      have hb3 : w.heap.size < w2.heap.size := World.block_lt_of_cell? w2 _ hRc
      have hc3 := (hcc _ _ hb2).trans hc2
      have hf3 := (hff _ _ hb2).trans hf2
      have hRc3 := (hcc _ _ hb3).trans hRc
      have HO3 := hid (owns_below HO.out hb)
      clear hb hcc hff hc2 hf2 hRc HO HV
      have HRS : Hid (RdAt (w3.setCell ⟨b, 0, none⟩ (.string R)) b 0 rest) := hid (by
        rw [← HRl.out]
        exact rdAt_str (World.cell?_setCell_same _ _ _ hc3) (by rw [World.frozen?_setCell]; exact hf3))
      have HGS : Hid (w3.grownBy (w3.setCell ⟨b, 0, none⟩ (.string R)) (some b)) := hid (turned_set (turned_refl w3 (some b)) (.inl rfl) _)
      go_wp2_with fail
      go_ret2
      refine ⟨⟨_, l, 0, rest, rfl, .good l rest (getR_of HE.out HF.out), SlV.of_own (B := (w.alloc (.cells #[.string S] 70)).heap.size) (t := 27) (HO3.out.kept HGS.out ?_), fun _ => HRS.out⟩, turned_trans (turned_below HB3.out _) HGS.out⟩
      cases hv : v.ownBlock with
      | none => exact .inl rfl
      | some k => exact .inr (by intro e; injection e with e; have := (HO3.out.lt k hv).1; have := HBL.out; rw [World.size_alloc] at *; omega)

end Go.Proofs.YtpjoeljjhgchpaaDoor
