/-
  For every list of calls, the law StorePlays answers true: calls one behind the other answer as the document says, and what becomes of a fork changes nothing of the one it came of; no conditions.
-/
import Derived.Test.YtaekljpijnkjoaaDoorCards
import Derived.Test.YtaekljpijnkjoaaDoorTie
import Derived.Test.YtaekljpijnkjoaaDoorStarg
import Derived.Test.YtaekljpijnkjoaaDoorStlaid
import Derived.WalkKit
import Derived.ProofKit
import Derived.Below
import Derived.SevenTiedAt
import Derived.Test.YtaekljpijnkjoaaDoorRf9
import Derived.Deep.Cut
import Derived.OwnWalk
import Derived.Laws.OwnMore
import Derived.Laws.IdiomStrings
import Derived.Deep.RegionHeld3
namespace Go.Proofs.YtaekljpijnkjoaaDoor.storePlays
open Go.ChangeShapes Go.WideShapes Go.ChangeAt Go.RowKit Go.ChangeMaps Go.Proofs.YtaekljpijnkjoaaDoor.St Go.Proofs.YtaekljpijnkjoaaDoor.Tx
set_option linter.unusedVariables false
set_option linter.unusedSimpArgs false
set_option maxRecDepth 100000

/- The step's box. -/
def Bx (W : World) (X : Nat) (k : Int) (n t : List UInt8) (m : Int) : Prop := W.heap[X]? = some (.cells #[.int .i64 k, .string (bs n), .string (bs t), .int .i64 m] 30 (0, 0))
theorem bx0 {W : World} {X : Nat} {k m : Int} {n t : List UInt8} (h : W.heap[X]? = some (.cells #[.int .i64 k, .string (bs n), .string (bs t), .int .i64 m] 30 (0, 0))) : W.cell? ⟨X, 0, none⟩ = some (.int .i64 k) := by rw [cell_of_row _ _ _ _ _ _ h]; rfl
theorem bx1 {W : World} {X : Nat} {k m : Int} {n t : List UInt8} (h : W.heap[X]? = some (.cells #[.int .i64 k, .string (bs n), .string (bs t), .int .i64 m] 30 (0, 0))) : W.cell? ⟨X, 1, none⟩ = some (.string (bs n)) := by rw [cell_of_row _ _ _ _ _ _ h]; rfl
theorem bx2 {W : World} {X : Nat} {k m : Int} {n t : List UInt8} (h : W.heap[X]? = some (.cells #[.int .i64 k, .string (bs n), .string (bs t), .int .i64 m] 30 (0, 0))) : W.cell? ⟨X, 2, none⟩ = some (.string (bs t)) := by rw [cell_of_row _ _ _ _ _ _ h]; rfl
theorem bx3 {W : World} {X : Nat} {k m : Int} {n t : List UInt8} (h : W.heap[X]? = some (.cells #[.int .i64 k, .string (bs n), .string (bs t), .int .i64 m] 30 (0, 0))) : W.cell? ⟨X, 3, none⟩ = some (.int .i64 m) := by rw [cell_of_row _ _ _ _ _ _ h]; rfl
def oN : List UInt8 := [79, 116, 104, 101, 114]
def oT : List UInt8 := [49]
theorem oN_max : oN.length ≤ maxLen := by unfold maxLen; decide
theorem oT_max : oT.length ≤ maxLen := by unfold maxLen; decide
/- So many bytes 0. -/
def zt (n : Nat) : List UInt8 := List.replicate n 0
theorem zt_len (n : Nat) : (zt n).length = n := by simp [zt]
theorem info_byte : (Tryd.prog.info? 5).map (fun i => (i.zero, i.size, i.bytes)) = some (some (.int .u8 0), 1, 1) := by kernel_rfl
theorem conv_made {w : World} {B g n : Nat} (h : w.ownsRow B 5 1 (.slice (some ⟨g, 0, none⟩) n n) n (madeCells (Value.int .u8 0).cells (n * 1)).toList) :
    (convert 40 9 (.slice (some ⟨g, 0, none⟩) n n)).run Tryd.prog w = .ok (.string (bs (zt n))) w := by
  have hl : (madeCells (Value.int .u8 0).cells (n * 1)).toList = List.replicate n (.int .u8 0) := by rw [Nat.mul_one]; exact toList_madeCells_one _ n
  rw [hl] at h
  have := run_convert_bytes_back (P := Tryd.prog) w 40 9 5 ⟨g, 0, none⟩ n (zt n) Tryd.underlying40 Tryd.underlying5 Tryd.underlying9 (fun j hj => by
    rw [zt_len] at hj
    have e : (zt n)[j]'(by rw [zt_len]; exact hj) = 0 := by simp [zt]
    rw [e, add_at, Nat.zero_add]
    exact row_at h (by rw [List.getElem?_replicate, if_pos hj]; rfl))
  rw [zt_len] at this
  exact this
theorem tw_start {w w1 : World} {h : Nat} (s : Sto w1 h w.heap.size []) (g : w.grownBy w1 none) : Tw w (w1.alloc (.cells #[.slice none 0 0, .slice none 0 0] 28)) h w.heap.size w1.heap.size (.slice none 0 0) (.slice none 0 0) [] [] :=
  ⟨s.kept (alloc_g _ _) (by simp) (by simp), ⟨heap_alloc_last _ _, ⟨rfl, .inl ⟨rfl, rfl⟩⟩, ⟨rfl, .inl ⟨rfl, rfl⟩⟩, .inl rfl⟩, grown_trans g (alloc_g _ _), Nat.le_refl _, g.size⟩
set_option maxHeartbeats 8000000 in

theorem walk (w : World) (o0 : Option Addr) (n0 c0 : Nat) (f0 : Nat → Sp) (S0 : Sl w o0 n0 f0) :
    Calls Tryd.prog 3 #[.slice o0 n0 c0] w fun e w' => e = .returned (.bool true) ∧ w.grownBy w' none := by
  have HS := hide S0
  have hmax := S0.max
  unfold maxLen at hmax
  clear S0
  go_enter Tryd.func3, Tryd.ntmps3
  go_wp2_with (go_at_call 7; refine (new_any _).mono ?_; rintro e w1 ⟨rfl, hs, hg⟩; have H1 := hide hs; have G1 := hide hg; generalize w.heap.size + 1 = h0 at H1 ⊢; clear hs hg)
  go_loopw [3, 4, 5] (fun s q i W => ∃ (k h b g : Nat) (vN vT : Value) (l : List Pr), k ≤ n0 ∧ s = .pointer (some ⟨h, 0, none⟩) ∧ q = .pointer (some ⟨g, 0, none⟩) ∧ i = .int .i64 k ∧ Hid (Tw w W h b g vN vT l l) ∧ Hid (Srt l) ∧ Hid (l.length ≤ 64)) (fun _ _ i _ => n0 - (intOf i).toNat)
  case atStart => exact ⟨0, _, _, _, _, _, _, Nat.zero_le _, rfl, rfl, rfl, tw_start H1.out G1.out, List.Pairwise.nil, hide (by decide)⟩
  case round =>
    clear H1 G1
    obtain ⟨k, h, b, g, vN, vT, l, hk, rfl, rfl, rfl, HT, HSr, HLe⟩ := hrel
    by_cases hlt : k < n0 ∧ k < 150
    · obtain ⟨hlt1, hlt2⟩ := hlt
      have i1 : (k : Int) < (n0 : Int) := by omega
      have i2 : (k : Int) < 150 := by omega
      obtain ⟨ad, rfl⟩ : ∃ ad, o0 = some ad := by
        cases o0 with
        | none => have := HS.out.none rfl; omega
        | some ad => exact ⟨ad, rfl⟩
      obtain ⟨A0, hA⟩ : ∃ A, ad.add (k * 4) = A := ⟨_, rfl⟩
      obtain ⟨s0, s1, s2, s3⟩ := HS.out.at' ad rfl k hlt1
      rw [hA] at s0 s1 s2 s3
      rw [Addr.add_zero'] at s0
      rw [Addr.add_succ'] at s1 s2 s3
      simp only [Nat.zero_add, Nat.reduceAdd] at s1 s2 s3
      obtain ⟨q0, q1, q2, q3⟩ := HS.out.ok k hlt1
      have kp : ∀ {a : Addr} {x : Value}, w.cell? a = some x → wr.cell? a = some x := fun {a x} h => HT.out.gr.cell h (by simp)
      replace s0 := kp s0
      replace s1 := kp s1
      replace s2 := kp s2
      replace s3 := kp s3
      obtain ⟨sk, hsk⟩ : ∃ x, (f0 k).k = x := ⟨_, rfl⟩
      obtain ⟨sn, hsn⟩ : ∃ x, (f0 k).n = x := ⟨_, rfl⟩
      obtain ⟨st, hst⟩ : ∃ x, (f0 k).t = x := ⟨_, rfl⟩
      obtain ⟨sm, hsm⟩ : ∃ x, (f0 k).m = x := ⟨_, rfl⟩
      rw [hsk] at s0 q0
      rw [hsn] at s1 q1
      rw [hst] at s2 q2
      rw [hsm] at s3 q3
      have HN := hide q1
      have HTx := hide q2
      have hzn := bs_size sn
      have hzt := bs_size st
      have ln : (sn.length : Int) ≤ 9223372036854775807 := by unfold maxLen at q1; omega
      have lt : (st.length : Int) ≤ 9223372036854775807 := by unfold maxLen at q2; omega
      clear kp hsk hsn hst hsm q0 q1 q2 q3
      by_cases h200 : (200 : Int) < sn.length
      · as_aux_lemma =>
          have HZ3 := hide (HT.out.kept (alloc_g wr (Obj.cells #[Value.int IntKind.i64 sk, Value.string (bs sn), Value.string (bs st), Value.int IntKind.i64 sm] 30)))
          have HSz := HSr
          have HLz := HLe
          go_wp2
          (go_roundw; (case rel => exact ⟨k + 1, _, _, _, _, _, _, by omega, rfl, rfl, by go_num, HZ3, HSz, HLz⟩); (case measure => simp [intOf]; omega))
      by_cases h262 : (262144 : Int) < st.length
      · as_aux_lemma =>
          have HZ3 := hide (HT.out.kept (alloc_g wr (Obj.cells #[Value.int IntKind.i64 sk, Value.string (bs sn), Value.string (bs st), Value.int IntKind.i64 sm] 30)))
          have HSz := HSr
          have HLz := HLe
          go_wp2
          (go_roundw; (case rel => exact ⟨k + 1, _, _, _, _, _, _, by omega, rfl, rfl, by go_num, HZ3, HSz, HLz⟩); (case measure => simp [intOf]; omega))
      go_upto_region 9 with fail
      have HX := hide (HT.out.kept (alloc_g wr (Obj.cells #[Value.int IntKind.i64 sk, Value.string (bs sn), Value.string (bs st), Value.int IntKind.i64 sm] 30)))
      have BX := hide (heap_alloc_last wr (Obj.cells #[Value.int IntKind.i64 sk, Value.string (bs sn), Value.string (bs st), Value.int IntKind.i64 sm] 30))
      clear s0 s1 s2 s3 hA HT
      generalize (wr.alloc (Obj.cells #[Value.int IntKind.i64 sk, Value.string (bs sn), Value.string (bs st), Value.int IntKind.i64 sm] 30)) = wx at HX BX ⊢
      generalize wr.heap.size = X at BX ⊢
      have x0 := bx0 BX.out
      have x1 := bx1 BX.out
      have x2 := bx2 BX.out
      have x3 := bx3 BX.out
      obtain ⟨A, C, m, hcut⟩ := cut sn l HSr.out
      have HC := hide hcut
      clear hcut hzn hzt ln lt h200 h262
      by_cases k0 : sk = 0
      · as_aux_lemma =>
          subst k0
          go_upto_region 11 with fail
          have HD := hide (HX.out.kept (drew_g wx))
          have BD := hide (show wx.drew.heap[X]? = _ from BX.out)
          have HSz := hide (nx_srt (t := st) HC.out HSr.out)
          have HLz := hide (nx_len (t := st) HC.out HLe.out)
          go_region_held3 (fun W => W.cell? ⟨X, 1, none⟩ = some (.string (bs sn)) ∧ W.cell? ⟨X, 2, none⟩ = some (.string (bs st))) (first | exact ⟨x1, x2⟩ | exact y1 | exact y2) (first | (go_at_call 8; refine (tw_put1 HD.out HC.out HLe.out HN.out st HTx.out).mono ?_; rintro e w5 ⟨rfl, hg, ht⟩; have B5 := hide (HD.out.st.files.held BD.out hg); have y1 := And.intro (bx1 B5.out) (bx2 B5.out); have HT5 := hide ht; clear hg ht) | (go_at_call 9; refine (tw_put2 HT5.out HC.out HLe.out HN.out st HTx.out).mono ?_; rintro e w6 ⟨rfl, hc, vN', vT', ht⟩; have B6 := hide (hc.held HT5.out.rs B5.out (by decide) (by decide)); have y2 := And.intro (bx1 B6.out) (bx2 B6.out); have HZ := hide ht; clear hc ht))
          all_goals go_wp2_with (first | (go_at_call 18; refine (sto_names HZ.out.st HSz.out HLz.out).mono ?_; rintro e wn1 ⟨v1, rfl, hg, ho⟩; have HZ1 := hide (HZ.out.kept hg); have O1 := hide ho; clear hg ho HZ) | (go_at_call 14; refine (rnames_at HZ1.out.rs HLz.out).mono ?_; rintro e wn2 ⟨v2, rfl, hg, ho⟩; have HZ2 := hide (HZ1.out.kept hg); have O2 := hide ho; have O3 := hide (O1.out.kept hg (none_or _)); clear hg ho O1 HZ1) | (go_at_call 17; refine (both_same O3.out O2.out HLz.out).mono ?_; rintro e wn3 ⟨rfl, hg⟩; have HZ3 := hide (HZ2.out.kept hg); clear hg O2 O3 HZ2))
          all_goals (go_roundw; (case rel => exact ⟨k + 1, _, _, _, _, _, _, by omega, rfl, rfl, by go_num, HZ3, HSz, HLz⟩); (case measure => simp [intOf]; omega))
      by_cases k1 : sk = 1
      · as_aux_lemma =>
          subst k1
          obtain ⟨gt, hgt⟩ : ∃ x, m.getD [] = x := ⟨_, rfl⟩
          obtain ⟨gb, hgb⟩ : ∃ x, m.isSome = x := ⟨_, rfl⟩
          have HGT := hide hgt
          have HGB := hide hgb
          have HSz := HSr
          have HLz := HLe
          clear hgt hgb
          go_wp2_with (first | (go_at_call 10; refine (tw_get1 HX.out HC.out HN.out).mono ?_; rw [HGT.out, HGB.out]; rintro e w5 ⟨rfl, hg⟩; have HZ := hide (HX.out.kept hg); have B5 := hide ((hg.block X (Array.getElem?_eq_some_iff.1 BX.out).1 (by simp)).trans BX.out); clear x1 x2 hg; have x1 := bx1 B5.out) | (go_at_call 11; refine (rget_at HZ.out.rs HC.out HLe.out).mono ?_; rw [HGT.out, HGB.out]; rintro e w' ⟨rfl, hw⟩; replace hw := hw.symm; subst hw) | (go_at_call 18; refine (sto_names HZ.out.st HSz.out HLz.out).mono ?_; rintro e wn1 ⟨v1, rfl, hg, ho⟩; have HZ1 := hide (HZ.out.kept hg); have O1 := hide ho; clear hg ho HZ) | (go_at_call 14; refine (rnames_at HZ1.out.rs HLz.out).mono ?_; rintro e wn2 ⟨v2, rfl, hg, ho⟩; have HZ2 := hide (HZ1.out.kept hg); have O2 := hide ho; have O3 := hide (O1.out.kept hg (none_or _)); clear hg ho O1 HZ1) | (go_at_call 17; refine (both_same O3.out O2.out HLz.out).mono ?_; rintro e wn3 ⟨rfl, hg⟩; have HZ3 := hide (HZ2.out.kept hg); clear hg O2 O3 HZ2))
          (go_roundw; (case rel => exact ⟨k + 1, _, _, _, _, _, _, by omega, rfl, rfl, by go_num, HZ3, HSz, HLz⟩); (case measure => simp [intOf]; omega))
      by_cases k2 : sk = 2
      · as_aux_lemma =>
          subst k2
          go_upto_region 19 with fail
          have HD := hide (HX.out.kept (drew_g wx))
          have BD := hide (show wx.drew.heap[X]? = _ from BX.out)
          have HSz := hide (HC.out.del HSr.out)
          have HLz := hide (cut_len HC.out HLe.out)
          go_region_held3 (fun W => W.cell? ⟨X, 1, none⟩ = some (.string (bs sn)) ∧ W.cell? ⟨X, 2, none⟩ = some (.string (bs st))) (first | exact ⟨x1, x2⟩ | exact y1 | exact y2) (first | (go_at_call 12; refine (tw_del1 HD.out HC.out HN.out).mono ?_; rintro e w5 ⟨rfl, hg, ht⟩; have B5 := hide (HD.out.st.files.held BD.out hg); have y1 := And.intro (bx1 B5.out) (bx2 B5.out); have HT5 := hide ht; clear hg ht) | (go_at_call 13; refine (tw_del2 HT5.out HC.out HLe.out).mono ?_; rintro e w6 ⟨rfl, hc, vN', vT', ht⟩; have B6 := hide (hc.held HT5.out.rs B5.out (by decide) (by decide)); have y2 := And.intro (bx1 B6.out) (bx2 B6.out); have HZ := hide ht; clear hc ht))
          all_goals go_wp2_with (first | (go_at_call 18; refine (sto_names HZ.out.st HSz.out HLz.out).mono ?_; rintro e wn1 ⟨v1, rfl, hg, ho⟩; have HZ1 := hide (HZ.out.kept hg); have O1 := hide ho; clear hg ho HZ) | (go_at_call 14; refine (rnames_at HZ1.out.rs HLz.out).mono ?_; rintro e wn2 ⟨v2, rfl, hg, ho⟩; have HZ2 := hide (HZ1.out.kept hg); have O2 := hide ho; have O3 := hide (O1.out.kept hg (none_or _)); clear hg ho O1 HZ1) | (go_at_call 17; refine (both_same O3.out O2.out HLz.out).mono ?_; rintro e wn3 ⟨rfl, hg⟩; have HZ3 := hide (HZ2.out.kept hg); clear hg O2 O3 HZ2))
          all_goals (go_roundw; (case rel => exact ⟨k + 1, _, _, _, _, _, _, by omega, rfl, rfl, by go_num, HZ3, HSz, HLz⟩); (case measure => simp [intOf]; omega))
      by_cases k3 : sk = 3
      · as_aux_lemma =>
          subst k3
          obtain ⟨A3, C3, m3, hcut3⟩ := cut oN l HSr.out
          have HC3 := hide hcut3
          have b2' : (⟨#[79, 116, 104, 101, 114]⟩ : ByteArray) = bs oN := rfl
          have b3' : (⟨#[49]⟩ : ByteArray) = bs oT := rfl
          have HSz := hide (nx_srt (t := oT) HC3.out HSr.out)
          have HLz := hide (nx_len (t := oT) HC3.out HLe.out)
          clear hcut3
          go_wp2_with (first | (go_at_call 14; refine (rnames_at HX.out.rs HLe.out).mono ?_; rintro e w5 ⟨v0, rfl, hg, ho⟩; have H5 := hide (HX.out.kept hg); have O5 := hide (row_down ho HX.out.gr.size); clear hg ho HX) | (go_at_call 15; refine (fork_at H5.out.st HLe.out).mono ?_; rintro e w6 ⟨h2, b2, rfl, hg, hb2, hs⟩; have H6 := hide (And.intro hg (And.intro hb2 hs)); have R6 := hide (H5.out.rs.grown hg); clear hg hb2 hs) | (go_at_call 16; refine (rfork_at R6.out HLe.out).mono ?_; rintro e w7 ⟨q2, vN2, vT2, rfl, hr, hg, hq⟩; have F7 := hide (fk_mk (k := 0) H5.out O5.out H6.out.1 H6.out.2.1 H6.out.2.2 hg hq hr); clear hr hg hq H5 O5 H6 R6) | (go_at_call 8; refine (tw_put1 F7.out.tw HC3.out HLe.out oN_max oT oT_max).mono ?_; rintro e w8 ⟨rfl, hg, ht⟩; have F8 := hide (F7.out.one hg ht); clear hg ht F7) | (go_at_call 9; refine (tw_put2 F8.out.tw HC3.out HLe.out oN_max oT oT_max).mono ?_; rintro e w9 ⟨rfl, hc, vN', vT', ht⟩; have S9 := hide (F8.out.two hc); have HZ := hide ht; clear hc ht F8) | (go_at_call 18; refine (sto_names S9.out.1 HSr.out HLe.out).mono ?_; rintro e w10 ⟨v1, rfl, hg, ho⟩; have HY := hide (HZ.out.kept hg); have O10 := hide ho; have O11 := hide (S9.out.2.kept hg (none_or _)); clear hg ho S9 HZ) | (go_at_call 17; refine (both_same O10.out O11.out HLe.out).mono ?_; rintro e w11 ⟨rfl, hg⟩; have HZ := hide (HY.out.kept hg); clear hg O10 O11 HY) | (go_at_call 18; refine (sto_names HZ.out.st HSz.out HLz.out).mono ?_; rintro e wn1 ⟨v1, rfl, hg, ho⟩; have HZ1 := hide (HZ.out.kept hg); have O1 := hide ho; clear hg ho HZ) | (go_at_call 14; refine (rnames_at HZ1.out.rs HLz.out).mono ?_; rintro e wn2 ⟨v2, rfl, hg, ho⟩; have HZ2 := hide (HZ1.out.kept hg); have O2 := hide ho; have O3 := hide (O1.out.kept hg (none_or _)); clear hg ho O1 HZ1) | (go_at_call 17; refine (both_same O3.out O2.out HLz.out).mono ?_; rintro e wn3 ⟨rfl, hg⟩; have HZ3 := hide (HZ2.out.kept hg); clear hg O2 O3 HZ2))
          (go_roundw; (case rel => exact ⟨k + 1, _, _, _, _, _, _, by omega, rfl, rfl, by go_num, HZ3, HSz, HLz⟩); (case measure => simp [intOf]; omega))
      by_cases k4 : sk = 4
      · as_aux_lemma =>
          subst k4
          by_cases m1 : 131070 ≤ sm
          · by_cases m2 : sm ≤ 131074
            · obtain ⟨N, rfl⟩ : ∃ N : Nat, sm = N := ⟨sm.toNat, by omega⟩
              obtain ⟨i0, hi, hz0, hz1, hz2⟩ := info_parts info_byte
              have HB1 := hide (show i0.bytes * N ≤ 281474976710656 by rw [hz2]; omega)
              have HB2 := hide (show N ≤ maxLen by unfold maxLen; omega)
              have HZT := hide (show (zt N).length ≤ maxLen by rw [zt_len]; exact HB2.out)
              have HSz := hide (nx_srt (t := zt N) HC.out HSr.out)
              have HLz := hide (nx_len (t := zt N) HC.out HLe.out)
              clear hz2
              go_upto_region 29 with (at_make; refine wpList_make_full _ rfl _ _ 40 rfl wx.heap.size 5 i0 (.int .u8 0) 1 Tryd.underlying40 hi hz0 hz1 .i64 .i64 _ _ N rfl rfl (by first | rfl | omega) (by first | rfl | omega) (HB1.out) (HB2.out) (Nat.le_refl _) ?_; intro w4 hown hg; have hcv := conv_made hown; have HM := hide (HX.out.kept hg); have BM := hide ((hg.block X (Array.getElem?_eq_some_iff.1 BX.out).1 (by simp)).trans BX.out); clear hown hg x0 x1 x2 x3; have x1 := bx1 BM.out)
              have HD := hide (HM.out.kept (drew_g w4))
              have BD := hide (show w4.drew.heap[X]? = _ from BM.out)
              go_region_held3 (fun W => W.cell? ⟨X, 1, none⟩ = some (.string (bs sn))) (first | exact x1 | exact y1 | exact y2) (first | (go_at_call 8; refine (tw_put1 HD.out HC.out HLe.out HN.out (zt N) HZT.out).mono ?_; rintro e w5 ⟨rfl, hg, ht⟩; have B5 := hide (HD.out.st.files.held BD.out hg); have y1 := bx1 B5.out; have HT5 := hide ht; clear hg ht) | (go_at_call 9; refine (tw_put2 HT5.out HC.out HLe.out HN.out (zt N) HZT.out).mono ?_; rintro e w6 ⟨rfl, hc, vN', vT', ht⟩; have B6 := hide (hc.held HT5.out.rs B5.out (by decide) (by decide)); have y2 := bx1 B6.out; have HZ := hide ht; clear hc ht))
              all_goals go_wp2_with (first | (go_at_call 18; refine (sto_names HZ.out.st HSz.out HLz.out).mono ?_; rintro e wn1 ⟨v1, rfl, hg, ho⟩; have HZ1 := hide (HZ.out.kept hg); have O1 := hide ho; clear hg ho HZ) | (go_at_call 14; refine (rnames_at HZ1.out.rs HLz.out).mono ?_; rintro e wn2 ⟨v2, rfl, hg, ho⟩; have HZ2 := hide (HZ1.out.kept hg); have O2 := hide ho; have O3 := hide (O1.out.kept hg (none_or _)); clear hg ho O1 HZ1) | (go_at_call 17; refine (both_same O3.out O2.out HLz.out).mono ?_; rintro e wn3 ⟨rfl, hg⟩; have HZ3 := hide (HZ2.out.kept hg); clear hg O2 O3 HZ2))
              all_goals (go_roundw; (case rel => exact ⟨k + 1, _, _, _, _, _, _, by omega, rfl, rfl, by go_num, HZ3, HSz, HLz⟩); (case measure => simp [intOf]; omega))
            · have HZ := HX
              have HSz := HSr
              have HLz := HLe
              go_wp2_with (first | (go_at_call 18; refine (sto_names HZ.out.st HSz.out HLz.out).mono ?_; rintro e wn1 ⟨v1, rfl, hg, ho⟩; have HZ1 := hide (HZ.out.kept hg); have O1 := hide ho; clear hg ho HZ) | (go_at_call 14; refine (rnames_at HZ1.out.rs HLz.out).mono ?_; rintro e wn2 ⟨v2, rfl, hg, ho⟩; have HZ2 := hide (HZ1.out.kept hg); have O2 := hide ho; have O3 := hide (O1.out.kept hg (none_or _)); clear hg ho O1 HZ1) | (go_at_call 17; refine (both_same O3.out O2.out HLz.out).mono ?_; rintro e wn3 ⟨rfl, hg⟩; have HZ3 := hide (HZ2.out.kept hg); clear hg O2 O3 HZ2))
              (go_roundw; (case rel => exact ⟨k + 1, _, _, _, _, _, _, by omega, rfl, rfl, by go_num, HZ3, HSz, HLz⟩); (case measure => simp [intOf]; omega))
          · have HZ := HX
            have HSz := HSr
            have HLz := HLe
            go_wp2_with (first | (go_at_call 18; refine (sto_names HZ.out.st HSz.out HLz.out).mono ?_; rintro e wn1 ⟨v1, rfl, hg, ho⟩; have HZ1 := hide (HZ.out.kept hg); have O1 := hide ho; clear hg ho HZ) | (go_at_call 14; refine (rnames_at HZ1.out.rs HLz.out).mono ?_; rintro e wn2 ⟨v2, rfl, hg, ho⟩; have HZ2 := hide (HZ1.out.kept hg); have O2 := hide ho; have O3 := hide (O1.out.kept hg (none_or _)); clear hg ho O1 HZ1) | (go_at_call 17; refine (both_same O3.out O2.out HLz.out).mono ?_; rintro e wn3 ⟨rfl, hg⟩; have HZ3 := hide (HZ2.out.kept hg); clear hg O2 O3 HZ2))
            (go_roundw; (case rel => exact ⟨k + 1, _, _, _, _, _, _, by omega, rfl, rfl, by go_num, HZ3, HSz, HLz⟩); (case measure => simp [intOf]; omega))
      · as_aux_lemma =>
          have e0 : (sk == 0) = false := by simpa using k0
          have e1 : (sk == 1) = false := by simpa using k1
          have e2 : (sk == 2) = false := by simpa using k2
          have e3 : (sk == 3) = false := by simpa using k3
          have e4 : (sk == 4) = false := by simpa using k4
          have HZ := HX
          have HSz := HSr
          have HLz := HLe
          go_wp2_with (first | (go_at_call 18; refine (sto_names HZ.out.st HSz.out HLz.out).mono ?_; rintro e wn1 ⟨v1, rfl, hg, ho⟩; have HZ1 := hide (HZ.out.kept hg); have O1 := hide ho; clear hg ho HZ) | (go_at_call 14; refine (rnames_at HZ1.out.rs HLz.out).mono ?_; rintro e wn2 ⟨v2, rfl, hg, ho⟩; have HZ2 := hide (HZ1.out.kept hg); have O2 := hide ho; have O3 := hide (O1.out.kept hg (none_or _)); clear hg ho O1 HZ1) | (go_at_call 17; refine (both_same O3.out O2.out HLz.out).mono ?_; rintro e wn3 ⟨rfl, hg⟩; have HZ3 := hide (HZ2.out.kept hg); clear hg O2 O3 HZ2))
          (go_roundw; (case rel => exact ⟨k + 1, _, _, _, _, _, _, by omega, rfl, rfl, by go_num, HZ3, HSz, HLz⟩); (case measure => simp [intOf]; omega))
    · have hx : k < n0 ∨ ¬ k < n0 := by omega
      rcases hx with hx | hx
      · as_aux_lemma =>
          have i1 : (k : Int) < (n0 : Int) := by omega
          have i2 : ¬ (k : Int) < 150 := by omega
          go_wp2_with (go_at_call 19; refine (wakes_any _).mono ?_; rintro e w8 ⟨rfl, hg⟩; have GW := hide (grown_trans HT.out.gr hg); clear hg)
          go_ret
          exact ⟨rfl, GW.out⟩
      · as_aux_lemma =>
          have i1 : ¬ (k : Int) < (n0 : Int) := by omega
          go_wp2_with (go_at_call 19; refine (wakes_any _).mono ?_; rintro e w8 ⟨rfl, hg⟩; have GW := hide (grown_trans HT.out.gr hg); clear hg)
          go_ret
          exact ⟨rfl, GW.out⟩

set_option maxRecDepth 100000 in
theorem lifted (os : Os) (started : os.Started) (H : Type) (enc : TypeId × Value → H) :
    ReturnsInHanded {} Tryd.checked os 3 .any (fun w args => (Rows.storePlaysSpec.pre enc Tryd.prog Tryd.f3 [] false w args ∧ laidMetH Tryd.prog laidL w) ∧ sizedMet enc Tryd.prog Tryd.f3 (OpenSpec.ofChange Rows.storePlaysSpec) false w args)
      (Rows.storePlaysSpec.post enc Tryd.prog Tryd.f3 false true false false) := by
  refine handed_and_shaped (C := Tryd.checked) (X := fun w _ => laidMetH Tryd.prog laidL w) (fun _ _ _ hh h => h.of_heap hh) own started (by kernel_rfl) Tryd.func3
    (ChangeSpec.witness_shaped (enc := enc) (C := Tryd.checked) (os := os) (X := fun w _ => laidMetH Tryd.prog laidL w) false (World.laidAll Tryd.prog os laidL) #[.slice none 0 0] 8 (World.laidAll_os _ _ _) (sshape os) (by kernel_rfl) (by kernel_rfl) (by kernel_rfl) (smet os _)) ?_
  intro W base args ds gs before hval0 hW hL hsh
  have hval : ∀ (j : Nat) t v, Tryd.f3.params[j]? = some t → args[j]? = some v → Value.okWide Tryd.prog W .any base t v := hval0
  have hW' := hW
  obtain ⟨p, q, hA0, hV, rfl, hfz, hnd⟩ := hW
  have hA : DataW.TrodAll enc Tryd.prog W 0 (fun _ => true) true Tryd.f3.params.toList args.toList ds p := hA0
  rw [Tryd.params3] at hA hval
  obtain ⟨v0, vs0, d0, ds0, p0, q0, hargs, rfl, rfl, h0, r0⟩ := trodAll_cons hA
  obtain ⟨rfl, rfl, rfl⟩ := trodAll_nil r0
  obtain rfl : args = #[v0] := by cases args; simp_all
  obtain ⟨rfl, rfl⟩ := trodVars_none hV
  have k0 := h0
  have lt0 : ∀ x ∈ p0, x.block < W.heap.size := by obtain ⟨m, hm⟩ := k0; exact DataW.trod_lt m _ _ _ hm
  obtain ⟨o0, n0, c0, rfl⟩ := okWide_slice Tryd.underlying22 (hval 0 22 v0 rfl rfl)
  obtain ⟨f0, S0⟩ := open_steps h0
  clear hA0 hval0
  refine (walk W o0 n0 c0 f0 S0).mono fun e W' ⟨he, hg⟩ => ?_
  subst he
  have bel : Below W.heap.size W W' := ⟨hg.os, hg.tape, hg.output, hg.size, fun k hk => hg.block k hk (by simp)⟩
  exact ⟨_, rfl, _, _, _, [], _, [], hW', trodAll_mk1 (shut_bool Tryd.underlying4 _), (trodAll_cons_mk (Below.trod laidOut (by kernel_rfl) (of_decide_eq_true (by kernel_rfl)) k0 bel lt0) trodAll_mk0), rfl, bel.frame _, fun h => by cases h⟩

theorem over : Rows.StorePlaysSaid :=
  OpenClaim.holds_of_wide 3 Tryd.f3 rfl rfl rfl rfl rfl rfl rfl ⟨rfl, rfl, rfl, rfl, rfl⟩ rfl rfl rfl rfl rfl (by kernel_rfl) Tryd.func3 (by kernel_rfl)
    (of_decide_eq_true (by kernel_rfl)) (by unfold Func.isWrapper; first | (rw [if_pos (by decide +kernel)]; kernel_rfl) | (rw [if_neg (by decide +kernel)]; exact ⟨rfl, rfl⟩))
    (fun os started H enc _ => lifted os started H enc)

theorem proved : Rows.StorePlaysCardSaid :=
  Claim7.holds_tied_plain_at .later [] [.data, .pinned] true (true, "f34cf41fdc5622416673053c98f882e136cdaf09cb127f09f3aaf0ad4432a0d5") false
    over (fun _ h => by cases h) (by kernel_rfl) (fun _ h => by cases h) storePlays_row_tie rfl ⟨rfl, rfl⟩ (by kernel_rfl) rfl
    (fun g gn hf hfn => by
      obtain rfl : g = 3 := Option.some.inj (hf.symm.trans (by kernel_rfl))
      obtain rfl : gn = Tryd.f3 := (Option.some.inj (Tryd.func3.symm.trans hfn)).symm
      exact ⟨by kernel_rfl, fun j t ht => by
        rw [Tryd.params3] at ht
        have hm : t ∈ [22] := by simpa using Array.mem_of_getElem? ht
        have hall : ([22].all fun k => !Tryd.prog.wantsStandIn k) = true := by kernel_rfl
        exact (show Tryd.prog.wantsStandIn t = false by simpa using List.all_eq_true.1 hall t hm)⟩)
    (by kernel_rfl)
end Go.Proofs.YtaekljpijnkjoaaDoor.storePlays

namespace Go.Proofs.YtaekljpijnkjoaaDoor
theorem storePlays_holds : Rows.StorePlaysCardSaid := storePlays.proved
#print axioms storePlays_holds
end Go.Proofs.YtaekljpijnkjoaaDoor
