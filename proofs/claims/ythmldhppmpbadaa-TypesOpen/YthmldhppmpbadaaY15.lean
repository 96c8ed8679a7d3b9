/-
  The document's own tables (package spinetref13): places, what may stand in a type, words.
  The document's own tables (package spinetref13): a record's bases.
  What a call tells that leaves what was there.
-/
import Derived.Test.YthmldhppmpbadaaTy18
namespace Go.Proofs.Ythmldhppmpbadaa.Ty
open Go.RowKit hiding Hid
open Go.Maps Go.Proofs.Ythmldhppmpbadaa.Tx Go.Proofs.Ythmldhppmpbadaa.Lx Go.Proofs.Ythmldhppmpbadaa.Tr Go.Proofs.Ythmldhppmpbadaa.Mp
set_option linter.unusedVariables false
set_option linter.unusedSimpArgs false
set_option maxRecDepth 100000

theorem place_at (w : World) (o : Option Addr) (n cp : Nat) (a : Int) (hn : n ≤ 1000000) : Calls Try.prog 81 #[.slice o n cp, .int .i64 a] w fun e w' => e = .returned (.bool (inT n a)) ∧ w' = w := by
  unfold inT
  by_cases h0 : 0 ≤ a
  · by_cases h1 : a < n
    · go_enter Try.func81, Try.ntmps81
      go_wp2
      go_ret
      simp [h0, h1]
    · go_enter Try.func81, Try.ntmps81
      go_wp2
      go_ret
      simp [h0, h1]
  · go_enter Try.func81, Try.ntmps81
    go_wp2
    go_ret
    refine ⟨?_, rfl⟩
    rw [decide_eq_false (by omega)]
    rfl
theorem rword_at (s : List UInt8) (w : World) (hs : s.length ≤ 9223372036854775807) : Calls Try.prog 79 #[.string (bs s)] w fun e w' => e = .returned (.bool (wordB s)) ∧ w' = w := by
  have H := hide (word_any s w hs)
  go_enter Try.func79, Try.ntmps79
  go_wp2_with (go_at_call 106; refine H.out.mono ?_; rintro e w' ⟨rfl, hw⟩; replace hw := hw.symm; subst hw)
  go_ret
  exact ⟨rfl, rfl⟩
def holdsF (f : Int) : Bool := f != 0 && (f != 5 && (f != 6 && f != 8))
def holdsA (T : List Tt) (a : Int) : Bool := inT T.length a && holdsF (fmA T a)
set_option maxHeartbeats 4000000 in
theorem holds_at {w : World} {o : Option Addr} {T : List Tt} (cp : Nat) (a : Int) (H : Tab w o T) : Calls Try.prog 80 #[.slice o T.length cp, .int .i64 a] w fun e w' => e = .returned (.bool (holdsA T a)) ∧ w' = w := by
  have hn := H.1
  unfold holdsA holdsF
  cases hi : inT T.length a with
  | false =>
    have HI := hide hi
    clear hi H
    (go_enter Try.func80, Try.ntmps80; go_wp2_with (go_at_call 81; refine (place_at _ _ _ _ _ (by omega)).mono ?_; rw [HI.out]; rintro e w' ⟨rfl, hw⟩; replace hw := hw.symm; subst hw); go_ret)
    exact ⟨rfl, rfl⟩
  | true =>
    have HI := hide hi
    unfold inT at hi
    simp only [Bool.and_eq_true, decide_eq_true_eq] at hi
    obtain ⟨i, rfl⟩ := Int.eq_ofNat_of_zero_le hi.1
    have h1 : i < T.length := by omega
    have j1 : (i : Int) < T.length := hi.2
    obtain ⟨x, hx⟩ : ∃ x, T[i]? = some x := ⟨T[i], List.getElem?_eq_getElem h1⟩
    have HE := hide (fmA_at hx)
    obtain ⟨ad, la, rfl, rfl, hc, hp⟩ := H.at hx
    obtain ⟨B, hB⟩ : ∃ B, ad.add (i * 10) = B := ⟨_, rfl⟩
    rw [hB] at hc
    obtain ⟨c0, hrest⟩ := ten_of hc
    have bl := block_lt_of_cell c0
    rw [HE.out]
    obtain ⟨f, hf⟩ : ∃ f, la.x.fm = f := ⟨_, rfl⟩
    rw [hf] at c0 ⊢
    clear hx H hc hp hi hrest hf HE
    by_cases f0 : f = 0
    · subst f0; (go_enter Try.func80, Try.ntmps80; go_wp2_with (go_at_call 81; refine (place_at _ _ _ _ _ (by omega)).mono ?_; rw [HI.out]; rintro e w' ⟨rfl, hw⟩; replace hw := hw.symm; subst hw); go_ret); exact ⟨rfl, rfl⟩
    by_cases f5 : f = 5
    · subst f5; (go_enter Try.func80, Try.ntmps80; go_wp2_with (go_at_call 81; refine (place_at _ _ _ _ _ (by omega)).mono ?_; rw [HI.out]; rintro e w' ⟨rfl, hw⟩; replace hw := hw.symm; subst hw); go_ret); exact ⟨rfl, rfl⟩
    by_cases f6 : f = 6
    · subst f6; (go_enter Try.func80, Try.ntmps80; go_wp2_with (go_at_call 81; refine (place_at _ _ _ _ _ (by omega)).mono ?_; rw [HI.out]; rintro e w' ⟨rfl, hw⟩; replace hw := hw.symm; subst hw); go_ret); exact ⟨rfl, rfl⟩
    by_cases f8 : f = 8
    · subst f8; (go_enter Try.func80, Try.ntmps80; go_wp2_with (go_at_call 81; refine (place_at _ _ _ _ _ (by omega)).mono ?_; rw [HI.out]; rintro e w' ⟨rfl, hw⟩; replace hw := hw.symm; subst hw); go_ret); exact ⟨rfl, rfl⟩
    (go_enter Try.func80, Try.ntmps80; go_wp2_with (go_at_call 81; refine (place_at _ _ _ _ _ (by omega)).mono ?_; rw [HI.out]; rintro e w' ⟨rfl, hw⟩; replace hw := hw.symm; subst hw); go_ret)
    refine ⟨?_, rfl⟩
    simp [Bool.and_assoc]
end Go.Proofs.Ythmldhppmpbadaa.Ty
namespace Go.Proofs.Ythmldhppmpbadaa.Ty
open Go.RowKit hiding Hid
open Go.Maps Go.Proofs.Ythmldhppmpbadaa.Tx Go.Proofs.Ythmldhppmpbadaa.Lx Go.Proofs.Ythmldhppmpbadaa.Tr Go.Proofs.Ythmldhppmpbadaa.Mp
set_option linter.unusedVariables false
set_option linter.unusedSimpArgs false
set_option maxRecDepth 100000

/- The bases, one behind the other; none where one is no record or there are too many. -/
def bsR (T : List Tt) : Nat → List Int → Nat → Option (List Int)
  | 0, _, _ => none
  | k + 1, l, a => match T[a]? with
    | none => none
    | some x => if x.ba = 0 then some l else if fmA T x.ba = 9 ∧ l.length ≤ 5 then bsR T k (l ++ [x.ba]) x.ba.toNat else none
def basesR (T : List Tt) (a : Nat) : Option (List Int) := bsR T 8 [(a : Int)] a
theorem bsR_z {T : List Tt} {k a : Nat} {l : List Int} {x : Tt} (h : T[a]? = some x) (h0 : x.ba = 0) : bsR T (k + 1) l a = some l := by rw [bsR, h]; simp [h0]
theorem bsR_go {T : List Tt} {k a : Nat} {l : List Int} {x : Tt} (h : T[a]? = some x) (h0 : x.ba ≠ 0) (h1 : fmA T x.ba = 9) (h2 : l.length ≤ 5) : bsR T (k + 1) l a = bsR T k (l ++ [x.ba]) x.ba.toNat := by rw [bsR, h]; simp [h0, h1, h2]
theorem bsR_no {T : List Tt} {k a : Nat} {l : List Int} {x : Tt} (h : T[a]? = some x) (h0 : x.ba ≠ 0) (h1 : ¬ (fmA T x.ba = 9 ∧ l.length ≤ 5)) : bsR T (k + 1) l a = none := by rw [bsR, h]; simp only [h0, if_false]; rw [if_neg h1]
def BsO (w : World) (r : Option (List Int)) (e : Ending) (w' : World) : Prop := w.grownBy w' none ∧ ((r = none ∧ e = .returned (.tuple #[.slice none 0 0, .bool false])) ∨ ∃ l o c, r = some l ∧ l.length ≤ 6 ∧ e = .returned (.tuple #[.slice o l.length c, .bool true]) ∧ Cls w' o (l.map (Value.int .i64)))
theorem em_e {s : Txt} (h : ¬ s = []) : (bs s).toList.isEmpty = false := by rw [bs_toList]; cases s with
  | nil => exact absurd rfl h
  | cons c r => rfl
theorem row_cls {w : World} {b0 : Nat} {e : TypeId} {v : Value} {n : Nat} {xs : List Value} (h : w.ownsRow b0 e 1 v n xs) : ∃ o c, v = .slice o n c ∧ Cls w o xs := by
  have hc := fun g hg => h.cells (g := g) hg
  rcases h.2 with ⟨rfl, rfl⟩ | ⟨g, cap, cur, rfl, hbg, hgg, _⟩
  · have hl : xs = [] := List.eq_nil_of_length_eq_zero (by simpa using h.1)
    exact ⟨none, 0, rfl, fun j u hu => by rw [hl] at hu; simp at hu⟩
  · exact ⟨_, cap, rfl, fun j u hu => ⟨_, rfl, hc g rfl j u hu⟩⟩
theorem infoI : (Try.prog.info? 3).map (fun i => (i.zero.map (·.cells.size), i.size, i.bytes)) = some (some 1, 1, 8) := by kernel_rfl
set_option maxHeartbeats 8000000 in
theorem bases_at {w : World} {o : Option Addr} {T : List Tt} (cp : Nat) {i : Nat} (H : Tab w o T) (hi : i < T.length) : Calls Try.prog 111 #[.slice o T.length cp, .int .i64 i] w (BsO w (basesR T i)) := by
  have HT := hide H
  have hlen := H.1
  have HC := hide (Cx.start w (fun _ => False))
  obtain ⟨R, hR⟩ : ∃ R, basesR T i = R := ⟨_, rfl⟩
  rw [hR]
  have HR := hide hR
  have HI0 := hide hi
  clear H hR hi
  go_enter Try.func111, Try.ntmps111
  go_wp2_with (refine at_bs 69 rfl ?_; refine wl_br rfl 69 _ _ rfl 3 1 [.int .i64 (i : Int)] HC.out rfl (by decide) (by kernel_rfl) ?_; intro b0 w' hc; (replace HC := hide hc; clear hc))
  go_loopw [1, 6] (fun av lv W => ∃ (j k : Nat) (l : List Int) (v : Value), av = .int .i64 j ∧ lv = v ∧ j < T.length ∧ l.length + k = 8 ∧ 1 ≤ l.length ∧ l.length ≤ 6 ∧ Hid ((∃ c cp', v = .slice c l.length cp')) ∧ Hid (bsR T (k + 1) l j = R) ∧ Hid (Cx w (fun _ => False) none [] [⟨v, 3, 1, l.length, l.map (Value.int .i64)⟩] [] W)) (fun _ lv _ => 8 - (match lv with | .slice _ n _ => n | _ => 0))
  case atStart => exact ⟨i, 7, [(i : Int)], _, rfl, rfl, HI0.out, rfl, Nat.le_refl _, (by show 1 ≤ 6; decide), hide ⟨_, _, rfl⟩, HR, HC⟩
  case round =>
    clear HC
    obtain ⟨j, k, l, v, rfl, rfl, hj, hlk, hl1, hl6, HV, HB, HC⟩ := hrel
    obtain ⟨oc, cc, rfl⟩ := HV.out
    have j1 : (j : Int) < T.length := by omega
    obtain ⟨x, hx⟩ : ∃ x, T[j]? = some x := ⟨T[j], List.getElem?_eq_getElem hj⟩
    obtain ⟨ad, la, rfl, rfl, hcl, hp⟩ := HT.out.at hx
    obtain ⟨B, hB⟩ : ∃ B, ad.add (j * 10) = B := ⟨_, rfl⟩
    rw [hB] at hcl
    obtain ⟨b0', _, _, _, _, b5, _⟩ := ten_of hcl
    have c5 := HC.out.grown.cell b5 (by simp)
    have bl := block_lt_of_cell c5
    have HX := hide hx
    clear hcl hx hp b0' b5 HV
    by_cases h0 : la.x.ba = 0
    · have HE := hide (show R = some l by rw [← HB.out, bsR_z HX.out h0])
      rw [h0] at c5
      go_wp2
      go_ret2
      obtain ⟨o9, c9, e9, hc9⟩ := row_cls (HC.out.row _ (.head _))
      cases e9
      exact ⟨HC.out.grown, .inr ⟨l, _, _, HE.out, hl6, rfl, hc9⟩⟩
    · have hb0 : (la.x.ba != 0) = true := by simpa using h0
      cases hin : inT T.length la.x.ba with
      | false =>
        have HE := hide (show R = none by rw [← HB.out, bsR_no HX.out h0 (fun h => by rw [fmA_out hin] at h; exact absurd h.1 (by decide))])
        have HI := hide hin
        clear hin
        go_wp2_with (go_at_call 81; refine (place_at _ _ _ _ _ (by omega)).mono ?_; rw [HI.out]; rintro e w' ⟨rfl, hw⟩; replace hw := hw.symm; subst hw)
        go_ret2
        exact ⟨HC.out.grown, .inl ⟨HE.out, rfl⟩⟩
      | true =>
        have HI := hide hin
        unfold inT at hin
        simp only [Bool.and_eq_true, decide_eq_true_eq] at hin
        obtain ⟨q, hq⟩ := Int.eq_ofNat_of_zero_le hin.1
        have q1 : q < T.length := by omega
        have q2 : (q : Int) < T.length := by omega
        obtain ⟨y, hy⟩ : ∃ y, T[q]? = some y := ⟨T[q], List.getElem?_eq_getElem q1⟩
        obtain ⟨ad', lb, e1, rfl, hcl, hp⟩ := HT.out.at hy
        cases e1
        obtain ⟨B2, hB2⟩ : ∃ B, ad.add (q * 10) = B := ⟨_, rfl⟩
        rw [hB2] at hcl
        obtain ⟨d0', drest⟩ := ten_of hcl
        have d0 := HC.out.grown.cell d0' (by simp)
        have bl2 := block_lt_of_cell d0
        have HF := hide (fmA_at hy)
        have HQ := hide hq
        clear hcl hp d0' drest hin hy
        rw [hq] at c5 hb0
        rw [hq] at HI
        by_cases h9 : lb.x.fm = 9
        · rw [h9] at d0
          by_cases h5 : l.length ≤ 5
          · have k5 : (l.length : Int) ≤ 5 := by omega
            have HE := hide (show bsR T k (l ++ [la.x.ba]) q = R by
              rw [← HB.out, bsR_go HX.out h0 (by rw [HQ.out, HF.out, h9]) h5, HQ.out, Int.toNat_natCast])
            go_wp2_with (first | (go_at_call 81; refine (place_at _ _ _ _ _ (by omega)).mono ?_; rw [HI.out]; rintro e w' ⟨rfl, hw⟩; replace hw := hw.symm; subst hw) | (refine at_bs 69 rfl ?_; refine wl_bl rfl 69 _ _ rfl 3 [.int .i64 (q : Int)] HC.out (by kernel_rfl) ?_; intro b w' hn hc; (replace HC := hide hc; clear hc)) | (refine wl_ap rfl _ _ rfl Try.underlying69 infoI (by decide) (by decide) rfl rfl HC.out rfl rfl (by omega) ?_; intro d9 cp9 w' hc; (replace HC := hide hc; clear hc)))
            refine ⟨⟨q, k - 1, l ++ [la.x.ba], _, rfl, rfl, q1, by simp; omega, by simp, by simp; omega, hide ⟨_, _, by simp; exact ⟨rfl, rfl⟩⟩, hide ?_, hide ?_⟩, ?_⟩
            · rw [show k - 1 + 1 = k by omega]; exact HE.out
            · rw [List.length_append, List.map_append, HQ.out]
              exact HC.out
            · show 8 - (l.length + 1) < 8 - l.length
              omega
          · have k5 : ¬ (l.length : Int) ≤ 5 := by omega
            have HE := hide (show R = none by rw [← HB.out, bsR_no HX.out h0 (fun h => h5 h.2)])
            go_wp2_with (go_at_call 81; refine (place_at _ _ _ _ _ (by omega)).mono ?_; rw [HI.out]; rintro e w' ⟨rfl, hw⟩; replace hw := hw.symm; subst hw)
            go_ret2
            exact ⟨HC.out.grown, .inl ⟨HE.out, rfl⟩⟩
        · have HE := hide (show R = none by rw [← HB.out, bsR_no HX.out h0 (fun h => h9 (by rw [← HF.out, ← HQ.out]; exact h.1))])
          have h9b : (lb.x.fm != 9) = true := by simpa using h9
          go_wp2_with (go_at_call 81; refine (place_at _ _ _ _ _ (by omega)).mono ?_; rw [HI.out]; rintro e w' ⟨rfl, hw⟩; replace hw := hw.symm; subst hw)
          go_ret2
          exact ⟨HC.out.grown, .inl ⟨HE.out, rfl⟩⟩
end Go.Proofs.Ythmldhppmpbadaa.Ty
namespace Go.Proofs.Ythmldhppmpbadaa.Ty
open Go.RowKit hiding Hid
def SzO (w : World) (v : Value) (e : Ending) (w' : World) : Prop := e = .returned v ∧ w.grownBy w' none
end Go.Proofs.Ythmldhppmpbadaa.Ty
