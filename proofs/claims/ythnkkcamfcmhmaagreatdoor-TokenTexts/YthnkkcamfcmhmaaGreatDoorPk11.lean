/-
  A strings.Builder of package token's own; Text.
-/
import Derived.Test.YthnkkcamfcmhmaaGreatDoorPk10
import Derived.Test.YthnkkcamfcmhmaaGreatDoorPk7
import Derived.Test.YthnkkcamfcmhmaaGreatDoorLr15
import Derived.Test.YthnkkcamfcmhmaaGreatDoorTkarg
import Derived.Shelf.Strings.Builder1
namespace Go.Proofs.YthnkkcamfcmhmaaGreatDoor.Lx
open Go.RowKit Go.Shelf Go.Proofs.YthnkkcamfcmhmaaGreatDoor.Tx
set_option linter.unusedVariables false
set_option linter.unusedSimpArgs false
set_option maxRecDepth 100000

/- A builder in block b, that holds the text l. -/
def Bd (B b : Nat) (l : List UInt8) (w : World) : Prop := Lib.IsBuilder 40 5 B b (Lib.byteCells l) w
theorem Bd.kept {B b : Nat} {l : List UInt8} {w w' : World} (h : Bd B b l w) (hg : w.grownBy w' none) : Bd B b l w' := by
  have k : ∀ p, Lib.BuilderAt 40 5 B b p (Lib.byteCells l) w → Lib.BuilderAt 40 5 B b p (Lib.byteCells l) w' := fun p ⟨h1, v, h2, h3, h4⟩ =>
    ⟨h1, v, (hg.block b (Array.getElem?_eq_some_iff.1 h2).1 (by simp)).trans h2, h3.kept hg (by cases hv : v.ownBlock <;> simp), h4⟩
  exact h.elim (fun x => Or.inl (k _ x)) (fun x => Or.inr (k _ x))
theorem str_byte (t : List UInt8) : Lib.strCells (bs t) = Lib.byteCells t := rfl
theorem byte_app (l t : List UInt8) : Lib.byteCells l ++ Lib.byteCells t = Lib.byteCells (l ++ t) := by simp [Lib.byteCells]
theorem bws_any {B b : Nat} {l : List UInt8} (t : List UInt8) {w : World} (h : Bd B b l w) (hl : l.length + t.length ≤ 100000000) (hB : B ≤ w.heap.size) :
    Calls Tryz.prog 13 #[.pointer (some ⟨b, 0, none⟩), .string (bs t)] w fun e w' => ∃ v, e = .returned v ∧ Bd B b (l ++ t) w' ∧ Below B w w' := by
  refine (Any.Builder_WriteString { Tryz.lays158 with } Tryz.Builder_Extra_158 B b (Lib.byteCells l) (bs t) w h (by rw [Lib.byteCells_length, bs_size]; omega) hB).mono ?_
  rintro e w' ⟨rfl, h1, h2⟩
  refine ⟨_, rfl, ?_, h2⟩
  rw [str_byte, byte_app] at h1
  exact Or.inr h1
theorem bwb_any {B b : Nat} {l : List UInt8} {w : World} (h : Bd B b l w) (hl : l.length ≤ 100000000) (hB : B ≤ w.heap.size) :
    Calls Tryz.prog 12 #[.pointer (some ⟨b, 0, none⟩), .int .u8 32] w fun e w' => ∃ v, e = .returned v ∧ Bd B b (l ++ [32]) w' ∧ Below B w w' := by
  refine (Any.Builder_WriteByte { Tryz.lays158 with } Tryz.Builder_Extra_158 B b (Lib.byteCells l) 32 w h (by rw [Lib.byteCells_length]; omega) hB).mono ?_
  rintro e w' ⟨rfl, h1, h2⟩
  refine ⟨_, rfl, ?_, h2⟩
  have : Lib.byteCells l ++ [Value.int .u8 32] = Lib.byteCells (l ++ [32]) := by simp [Lib.byteCells]
  rw [this] at h1
  exact Or.inr h1
theorem bst_any {B b : Nat} {l : List UInt8} {w : World} (h : Bd B b l w) (hB : B ≤ w.heap.size) :
    Calls Tryz.prog 15 #[.pointer (some ⟨b, 0, none⟩)] w fun e w' => e = .returned (.string (bs l)) ∧ Below B w w' := Tryz.Builder_String_any B b l w h hB
theorem ble_any {B b : Nat} {l : List UInt8} {w : World} (h : Bd B b l w) :
    Calls Tryz.prog 14 #[.pointer (some ⟨b, 0, none⟩)] w fun e w' => e = .returned (.int .i64 (l.length : Nat)) ∧ w' = w := by
  refine (Tryz.Builder_Len B b (Lib.byteCells l) w h).mono ?_
  rintro e w' ⟨rfl, rfl⟩
  rw [Lib.byteCells_length]
  exact ⟨rfl, rfl⟩
theorem Bd.fresh (w : World) : Bd w.heap.size w.heap.size [] (w.alloc (.cells #[.pointer none, .slice none 0 0] 40)) := Lib.fresh_isBuilder _ _ _
theorem g_below {v w w' : World} (h : v.grownBy w none) (hb : Below v.heap.size w w') : v.grownBy w' none :=
  ⟨hb.os.trans h.os, hb.tape.trans h.tape, hb.output.trans h.output, Nat.le_trans h.size hb.size, fun k hk hn => (hb.block k hk).trans (h.block k hk hn)⟩
theorem wf_bd {n : Int} (h : (Lit.int .i64 n).wf = true) : -9223372036854775808 ≤ n ∧ n ≤ 9223372036854775807 := by
  have e0 : IntKind.i64.min = -9223372036854775808 := by decide
  have e1 : IntKind.i64.max = 9223372036854775807 := by decide
  simp [Lit.wf, e0, e1] at h
  omega
set_option maxHeartbeats 8000000 in
theorem ptext_at (w : World) (A : Gt w) (o : Option Addr) (cp : Nat) (ts : List Tk) (hl : ts.length ≤ 9223372036854775807) (hk : ∀ t ∈ ts, t.ok) (ht : ∀ t ∈ ts, t.t.length ≤ 1000) (h1 : TkS w o ts) :
    Calls Tryz.prog 6 #[.slice o ts.length cp] w fun e w' => e = .returned (.tuple #[.string (bs (textT ts).1), .int .i64 (textT ts).2]) ∧ w.grownBy w' none := by
  have H1 := hide h1
  have HK := hide hk
  have HT := hide ht
  have hl' : (ts.length : Int) ≤ 9223372036854775807 := by omega
  have b0 : (⟨#[]⟩ : ByteArray) = bs [] := rfl
  clear h1 ht hl hk
  by_cases h6 : 6000 < ts.length
  · have HE := hide (textT_many h6)
    have k1 : (6000 : Int) < ts.length := by omega
    clear A
    go_enter Tryz.func6, Tryz.ntmps6
    go_wp2
    go_ret2
    refine ⟨?_, g_refl _⟩
    rw [HE.out]
    rfl
  have H6 := hide h6
  have k1 : ¬ (6000 : Int) < ts.length := by omega
  have k2 : (ts.length : Int) ≤ 6000 := by omega
  have HAw := hide A
  have HNw := hide (new_at w A)
  clear h6 hl' A
  go_enter Tryz.func6, Tryz.ntmps6
  go_wp2_with (go_at_call 10; refine HNw.out.mono ?_; rintro e w2 ⟨tb, rfl, hT, hg⟩; have HTb := hide hT; have G2 := hide hg; clear hg hT)
  have HB0 := hide (Bd.fresh w2)
  go_loopw [6, 7, 8, 9, 16] (fun x6 x7 x8 x9 iv W => ∃ (i : Nat) (y6 y7 y8 y9 : Value), i ≤ ts.length ∧ x6 = y6 ∧ x7 = y7 ∧ x8 = y8 ∧ x9 = y9 ∧ iv = .int .i64 i ∧ Hid (∀ t ∈ ts.take i, goodT t = true) ∧ Hid (Bd w2.heap.size w2.heap.size (joinT (ts.take i)) W) ∧ Hid (w2.grownBy W none)) (fun _ _ _ _ iv _ => ts.length - (intOf iv).toNat)
  case atStart => exact ⟨0, _, _, _, _, Nat.zero_le _, rfl, rfl, rfl, rfl, rfl, hide (by simp), HB0, hide (alloc_g _ _)⟩
  case round =>
    obtain ⟨i, y6, y7, y8, y9, hi, rfl, rfl, rfl, rfl, rfl, HA, HB, HG2⟩ := hrel
    have hLn := joinT_len (ts.take i) HA.out
    rw [List.length_take] at hLn
    obtain ⟨J, hJ⟩ : ∃ J, joinT (ts.take i) = J := ⟨_, rfl⟩
    rw [hJ] at hLn HB
    have lJ : J.length ≤ 500000 := by omega
    have lJ' : (J.length : Int) ≤ 500000 := by omega
    clear HB0 hLn
    by_cases hlt : i < ts.length
    · have j1 : (i : Int) < ts.length := by omega
      obtain ⟨A1, rfl⟩ : ∃ ad, o = some ad := by
        cases o with
        | none => have := H1.out.nil' rfl; omega
        | some ad => exact ⟨ad, rfl⟩
      obtain ⟨P, hP⟩ : ∃ P, A1.add (i * 4) = P := ⟨_, rfl⟩
      have t1 := (H1.out.at' A1 rfl i hlt).kept (grown_trans G2.out HG2.out)
      rw [hP] at t1
      obtain ⟨x, hx⟩ : ∃ x, ts[i] = x := ⟨_, rfl⟩
      rw [hx] at t1
      have HX := hide (show ts[i]? = some x by rw [List.getElem?_eq_getElem hlt, hx])
      have hok := HK.out _ (List.getElem_mem hlt)
      have htl := HT.out _ (List.getElem_mem hlt)
      rw [hx] at hok htl
      have hnb := wf_bd hok.2.1
      have HSp := hide (fun W (h : w2.grownBy W none) => spell_at x hok.1 hok.2.2.1 hnb.1 hnb.2 htl W tb (HTb.out.kept h) (HAw.out.g (grown_trans G2.out h)))
      unfold aggT at HSp
      obtain ⟨x0, x1, x2, x3⟩ := four_of' t1
      clear t1 hx hok htl hnb
      cases hg : goodT x
      · rw [hg] at HSp
        have HE := hide (textT_bad H6.out HX.out hg)
        clear hg
        go_wp2_with (go_at_call 11; refine (HSp.out _ (grown_trans HG2.out (alloc_g _ _)) ).mono ?_; rintro e wk ⟨rfl, hg⟩; have GK := hide (grown_trans (grown_trans HG2.out (alloc_g _ _)) hg); have BK := hide ((HB.out.kept (alloc_g _ _)).kept hg); clear hg)
        go_ret2
        refine ⟨?_, grown_trans G2.out GK.out⟩
        rw [HE.out]
        rfl
      · rw [hg] at HSp
        have HN := hide (take_all HX.out HA.out hg)
        have hso := spS_good hg
        have hsl := oneS_len hg
        rw [hso] at HSp
        obtain ⟨S, hS⟩ : ∃ S, oneS x = S := ⟨_, rfl⟩
        rw [hS] at HSp hsl
        clear hg hso
        by_cases hm0 : i = 0
        · have HJ := hide (show joinT (ts.take (i + 1)) = J ++ S by rw [join_first hm0 HX.out, ← hJ, hm0, hS]; rfl)
          have m0 : ¬ (0 : Int) < i := by omega
          clear hm0 hJ hS
          go_wp2_with (first
            | (go_at_call 11; refine (HSp.out _ (grown_trans HG2.out (alloc_g _ _)) ).mono ?_; rintro e wk ⟨rfl, hg⟩; have GK := hide (grown_trans (grown_trans HG2.out (alloc_g _ _)) hg); have BK := hide ((HB.out.kept (alloc_g _ _)).kept hg); clear hg)
            | (go_at_call 13; refine (bws_any S BK.out (by omega) GK.out.size).mono ?_; rintro e w5 ⟨v5, rfl, hb5, hw5⟩; have B5 := hide hb5; have G5 := hide (g_below GK.out hw5); clear hb5 hw5))
          go_roundw
          case rel => exact ⟨i + 1, _, _, _, _, by omega, rfl, rfl, rfl, rfl, by go_num, HN, by rw [HJ.out]; exact B5, G5⟩
          case measure => simp [intOf]; omega
        · have HJ := hide (show joinT (ts.take (i + 1)) = (J ++ [32]) ++ S by rw [join_next hm0 HX.out, hJ, hS])
          have m0 : (0 : Int) < i := by omega
          clear hm0 hJ hS
          go_wp2_with (first
            | (go_at_call 11; refine (HSp.out _ (grown_trans HG2.out (alloc_g _ _)) ).mono ?_; rintro e wk ⟨rfl, hg⟩; have GK := hide (grown_trans (grown_trans HG2.out (alloc_g _ _)) hg); have BK := hide ((HB.out.kept (alloc_g _ _)).kept hg); clear hg)
            | (go_at_call 12; refine (bwb_any BK.out (by omega) GK.out.size).mono ?_; rintro e w4 ⟨v4, rfl, hb4, hw4⟩; have B4 := hide hb4; have G4 := hide (g_below GK.out hw4); clear hb4 hw4)
            | (go_at_call 13; refine (bws_any S B4.out (by simp; omega) G4.out.size).mono ?_; rintro e w5 ⟨v5, rfl, hb5, hw5⟩; have B5 := hide hb5; have G5 := hide (g_below G4.out hw5); clear hb5 hw5))
          go_roundw
          case rel => exact ⟨i + 1, _, _, _, _, by omega, rfl, rfl, rfl, rfl, by go_num, HN, by rw [HJ.out]; exact B5, G5⟩
          case measure => simp [intOf]; omega
    · obtain rfl : i = ts.length := by omega
      rw [List.take_length] at hJ
      have HE := hide (textT_good H6.out (fun t h => HA.out t (by rw [List.take_length]; exact h)))
      rw [hJ] at HE
      clear hJ
      by_cases h16 : 16384 < J.length
      · have i16 : (16384 : Int) < J.length := by omega
        rw [if_pos h16] at HE
        go_wp2_with (go_at_call 14; refine (ble_any HB.out).mono ?_; rintro e w' ⟨rfl, hw⟩; replace hw := hw.symm; subst hw)
        go_ret2
        refine ⟨?_, grown_trans G2.out HG2.out⟩
        rw [HE.out]
        rfl
      · have i16 : ¬ (16384 : Int) < J.length := by omega
        rw [if_neg h16] at HE
        go_wp2_with (first
          | (go_at_call 14; refine (ble_any HB.out).mono ?_; rintro e w' ⟨rfl, hw⟩; replace hw := hw.symm; subst hw)
          | (go_at_call 15; refine (bst_any HB.out HG2.out.size).mono ?_; rintro e w5 ⟨rfl, hw5⟩; have G5 := hide (g_below HG2.out hw5); clear hw5))
        go_ret2
        refine ⟨?_, grown_trans G2.out G5.out⟩
        rw [HE.out]
        rfl
end Go.Proofs.YthnkkcamfcmhmaaGreatDoor.Lx
