/- Layer 4, code: a program's words: Text. -/
import Derived.Test.YtfohdoahddommaaDoorCodE
namespace Go.Proofs.YtfohdoahddommaaDoor
open Go.RowKit Go.Lib
set_option linter.unusedVariables false
set_option maxRecDepth 100000

/-- What is owned stays so, if nothing that was there turns. -/
theorem owns_below {w w' : World} {base : Nat} {e : TypeId} {size : Nat} {v : Value} {n : Nat} {xs : List Value} (h : w.ownsRow base e size v n xs) (hb : Below w.heap.size w w') : w'.ownsRow base e size v n xs := by
  refine h.kept (turned_below hb none) ?_
  cases hv : v.ownBlock with
  | none => exact .inl rfl
  | some k => exact .inr (by simp)

theorem owns_lt {w : World} {base : Nat} {e : TypeId} {size : Nat} {v : Value} {n : Nat} {xs : List Value} (h : w.ownsRow base e size v n xs) : ∀ k, v.ownBlock = some k → base ≤ k ∧ k < w.heap.size := h.lt

/-- An instruction's words, as the program's own string. -/
def wS (x : Int × Int) : ByteArray := ⟨(wordI x).toArray⟩

theorem wS_list (x : Int × Int) : (wS x).data.toList = wordI x := by unfold wS; simp

attribute [irreducible] wS

def strsOf (l : List (Int × Int)) : List Value := l.map fun x => .string (wS x)

theorem strsOf_snoc {l : List (Int × Int)} {k : Nat} (h : k < l.length) : strsOf (l.take (k + 1)) = strsOf (l.take k) ++ [.string (wS (l.getD k (0, 0)))] := by
  unfold strsOf
  rw [List.take_succ_eq_append_getElem h, List.map_append, List.getD_eq_getElem?_getD, List.getElem?_eq_getElem h]
  rfl

theorem strInfo : (Tryd.prog.info? 9).map (fun i => (i.zero, i.size, i.bytes)) = some (some (.string ByteArray.empty), 1, 16) := by kernel_rfl

theorem join_own {B : Nat} (v : Value) (l : List (Int × Int)) (hr : l.all rightI = true) (hl : l.length ≤ 24) (T : ByteArray) (hT : Hid ((⟨(textL l).toArray⟩ : ByteArray) = T)) (w : World) (h : w.ownsRow B 9 1 v l.length (strsOf l)) :
    Calls Tryd.prog 45 #[v, .string ⟨#[59, 32]⟩] w fun e w' => e = .returned (.string T) ∧ Below w.heap.size w w' := by
  have e1 : (l.map wS).map (·.data.toList) = l.map wordI := by
    rw [List.map_map]
    apply List.map_congr_left
    intro x _
    exact wS_list x
  have e2 : (⟨#[59, 32]⟩ : ByteArray).data.toList = [59, 32] := rfl
  rcases h.2 with ⟨rfl, hn⟩ | ⟨g, cap, cur, rfl, hb, hg, hc, hm, hs, hx⟩
  · have hl0 : l = [] := List.eq_nil_of_length_eq_zero hn
    subst hl0
    refine (Tryd.strings_Join_none none 0 _ w).mono ?_
    rintro e w' ⟨rfl, rfl⟩
    exact ⟨by rw [← hT.out]; rfl, Below.refl _ _⟩
  · have hlen : (l.map wS).length = l.length := by simp
    have := Tryd.strings_Join g 0 cap (l.map wS) ⟨#[59, 32]⟩ w (fun j x hj => by
      rw [Nat.zero_add]
      have hjl : j < l.length := by
        rcases Nat.lt_or_ge j l.length with h1 | h1
        · exact h1
        · rw [List.getElem?_eq_none (by rw [hlen]; exact h1)] at hj; cases hj
      rw [h.cellAt j (by omega)]
      unfold strsOf
      rw [List.getElem?_map] at hj ⊢
      rw [List.getElem?_eq_getElem hjl] at hj ⊢
      simp only [Option.map_some, Option.some.injEq] at hj ⊢
      rw [hj]) ((Array.getElem?_eq_some_iff.1 hg).1) (by rw [hlen]; omega) (by rw [hlen]; exact hc) (by
        rw [e1, e2]
        have := textL_len l hr
        unfold textL at this
        omega)
    rw [e1, e2, hlen] at this
    refine this.mono ?_
    rintro e w' ⟨rfl, hb⟩
    exact ⟨by rw [← hT.out]; rfl, hb⟩

set_option maxRecDepth 100000 in
set_option maxHeartbeats 2000000 in
theorem ctext_any (v : Value) (l : List (Int × Int)) (T : ByteArray) (hT : Hid ((⟨(outL l).toArray⟩ : ByteArray) = T)) (hl : l.length ≤ 1000000000000) (w : World) (hv : SlV w w.heap.size v l) (he : Env4 w) :
    Calls Tryd.prog 28 #[v] w fun e w' => e = .returned (.string T) ∧ Below w.heap.size w w' := by
  have HV := hid hv
  have HE := hid he; clear he
  obtain ⟨A, c, rfl, hc, hA⟩ := hv
  have HA := hid hA; clear hA
  cases hf : fitsL l with
  | false =>
    have HF := hid hf; clear hf
    obtain rfl : (⟨#[]⟩ : ByteArray) = T := by rw [← hT.out, textL_out_not HF.out]
    clear hT
    go_enter Tryd.func28, Tryd.ntmps28
    go_wp2_with fail
    refine (fits_any _ l false HF hl w HV.out).mono ?_
    rintro e w1 ⟨rfl, hb⟩
    go_wp2_with fail
    go_ret
    exact ⟨rfl, hb⟩
  | true =>
    have HF := hid hf
    obtain ⟨h24, hall⟩ := (fitsL_iff l).1 hf
    have HAL := hid hall
    clear hf hall
    have HT : Hid ((⟨(textL l).toArray⟩ : ByteArray) = T) := hid (by rw [← hT.out, textL_out HF.out])
    clear hT
    obtain ⟨i0, hi, hz0, hz1, hz2⟩ := info_parts strInfo
    go_enter Tryd.func28, Tryd.ntmps28
    go_wp2_with fail
    refine (fits_any _ l true HF hl w HV.out).mono ?_
    rintro e w1 ⟨rfl, hb⟩
    have HB1 := hid hb; clear hb
    go_wp2_with fail
    go_loopw [3, 11] (fun s i wr => ∃ k : Nat, k ≤ l.length ∧ i = .int .i64 k ∧ Hid (wr.ownsRow w.heap.size 9 1 s k (strsOf (l.take k))) ∧ Hid (Below w.heap.size w wr)) (fun _ i _ => l.length - (RowKit.intOf i).toNat)
    case atStart => exact ⟨0, Nat.zero_le _, rfl, hid (World.ownsRow_nil _ _ _ _), HB1⟩
    case round =>
      clear HB1
      obtain ⟨k, hk, rfl, hown, hbel⟩ := hrel
      by_cases hlt : k < l.length
      · obtain ⟨b1, o1, rfl, hbB, hcell⟩ := HA.out (by omega)
        obtain ⟨ca, cb⟩ := hcell k hlt
        obtain ⟨o, a, hoa⟩ := pair_of (p := l.getD k (0, 0))
        rw [hoa] at ca cb
        have HOA := hid hoa; clear hoa hcell
        have ca' := (hbel.out.cell (p := ⟨b1, o1 + k * 2, none⟩) hbB).trans ca
        have cb' := (hbel.out.cell (p := ⟨b1, o1 + k * 2 + 1, none⟩) hbB).trans cb
        clear ca cb
        have HR : Hid (rightI (o, a) = true) := hid (by
          have := List.all_eq_true.1 HAL.out (l[k]'hlt) (List.getElem_mem hlt)
          have e := HOA.out
          rw [List.getD_eq_getElem?_getD, List.getElem?_eq_getElem hlt] at e
          rw [← e]; exact this)
        obtain ⟨S, hS⟩ : ∃ S, wS (o, a) = S := ⟨_, rfl⟩
        have HS : Hid ((⟨(wordI (o, a)).toArray⟩ : ByteArray) = S) := hid (by rw [← hS, ← wS_list, mk_data])
        have HS2 := hid hS; clear hS
        have HB2 := hid (hbel.out.alloc hbel.out.size (.cells #[.int .i64 o, .int .i64 a] 37))
        have HO2 := hid (hown.out.alloc (.cells #[.int .i64 o, .int .i64 a] 37))
        go_wp2_with fail
        refine (words_any o a HR S HS _ (HE.out.below HB2.out)).mono ?_
        rintro e w2 ⟨rfl, hb2⟩
        have HB3 := hid (HB2.out.trans (hb2.mono HB2.out.size))
        have HO3 := hid ((owns_below HO2.out hb2).alloc (.cells #[.string S] 9))
        have HB4 := hid (HB3.out.alloc HB3.out.size (.cells #[.string S] 9))
        have HC : Hid (∀ j u, [Value.string S][j]? = some u → (w2.alloc (.cells #[.string S] 9)).cell? ((⟨w2.heap.size, 0, none⟩ : Addr).add j) = some u) := hid (fun j u hj => new_cells _ #[.string S] _ j u (by simpa using hj))
        clear hb2
        go_wp2_with (at_builtin; refine wpList_append_own _ rfl _ _ 83 rfl w.heap.size 9 i0 (.string ByteArray.empty) 1 16 Tryd.underlying83 hi hz0 hz1 hz2 rfl (by decide) _ _ _ rfl HO3.out ⟨w2.heap.size, 0, none⟩ 1 1 [.string S] rfl rfl HC.out (by intro u hu; simp at hu; subst hu; rfl) (by unfold maxLen; omega) (by omega) HB4.out.size ?_; intro s' w3 hown3 hg3 _)
        go_roundw
        case rel =>
          refine ⟨k + 1, by omega, by go_num, hid ?_, hid ?_⟩
          · rw [strsOf_snoc hlt, HOA.out, HS2.out]
            exact hown3
          · exact HB4.out.grown hg3 HB4.out.size (fun g hg => (HO3.out.lt g hg).1)
        case measure => simp [RowKit.intOf]; omega
      · obtain rfl : k = l.length := by omega
        have HO : Hid (wr.ownsRow w.heap.size 9 1 _ l.length (strsOf l)) := hid (by
          have := hown.out
          rw [List.take_of_length_le (Nat.le_refl _)] at this
          exact this)
        clear hown
        go_wp2_with fail
        refine (join_own (B := w.heap.size) _ l HAL.out h24 T HT _ HO.out).mono ?_
        rintro e w2 ⟨rfl, hb2⟩
        have HB3 := hid (hbel.out.trans (hb2.mono hbel.out.size)); clear hb2
        go_wp2_with fail
        go_ret
        exact ⟨rfl, HB3.out⟩

end Go.Proofs.YtfohdoahddommaaDoor
