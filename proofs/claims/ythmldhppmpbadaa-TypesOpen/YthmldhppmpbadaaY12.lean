/-
  Types: what fits, purely.
  Types: fitsOpen, fitsVar, fitsValue.
  Types: Fits, for every input.
-/
import Derived.Test.YthmldhppmpbadaaY10
namespace Go.Proofs.Ythmldhppmpbadaa.Ty
open Go.RowKit hiding Hid
open Go.Proofs.Ythmldhppmpbadaa.Tx Go.Proofs.Ythmldhppmpbadaa.Lx Go.Proofs.Ythmldhppmpbadaa.Tr
set_option linter.unusedVariables false
set_option linter.unusedSimpArgs false

/- What fits an open array: element by element, as long as they are open. -/
def FitN (T : List Tt) : Nat → Int → Int → Prop
  | 0, _, _ => False
  | n + 1, a, b => fmA T b = 8 ∧ (fmA T a = 7 ∨ fmA T a = 8) ∧ (SameP T (elA T a) (elA T b) ∨ FitN T n (elA T a) (elA T b))
def FitO (T : List Tt) (a b : Int) : Prop := ∃ n, FitN T n a b
theorem FitO.iff {T : List Tt} {a b : Int} : FitO T a b ↔ fmA T b = 8 ∧ (fmA T a = 7 ∨ fmA T a = 8) ∧ (SameP T (elA T a) (elA T b) ∨ FitO T (elA T a) (elA T b)) := by
  constructor
  · rintro ⟨n, h⟩
    cases n with
    | zero => exact h.elim
    | succ n =>
      obtain ⟨h1, h2, h3⟩ := h
      exact ⟨h1, h2, h3.imp id (fun h => ⟨n, h⟩)⟩
  · rintro ⟨h1, h2, h3⟩
    rcases h3 with h | ⟨n, h⟩
    · exact ⟨1, h1, h2, .inl h⟩
    · exact ⟨n + 1, h1, h2, .inr h⟩
theorem FitO.form {T : List Tt} {a b : Int} (h : FitO T a b) : fmA T b = 8 ∧ (fmA T a = 7 ∨ fmA T a = 8) := ⟨(FitO.iff.1 h).1, (FitO.iff.1 h).2.1⟩
def FitV (T : List Tt) (a b : Int) : Prop := (fmA T a ≠ 0 ∧ fmA T a ≠ 5 ∧ fmA T a ≠ 6) ∧ (SameP T a b ∨ (fmA T a = 9 ∧ fmA T b = 9 ∧ ExA T a b) ∨ FitO T a b)
def FitW (T : List Tt) (a b : Int) : Prop := (fmA T b = 8 ∧ (FitO T a b ∨ (fmA T a = 6 ∧ elA T b = 3))) ∨ (fmA T b ≠ 8 ∧ ¬ (fmA T b = 7 ∧ (fmA T a = 8 ∨ fmA T a = 6)) ∧ AsgA T a b)
def FitA (T : List Tt) (a : Int) (v : Bool) (b : Int) : Prop := (v = true ∧ FitV T a b) ∨ (v = false ∧ FitW T a b)
theorem open_down {T : List Tt} {r : Nat → Nat} (hr : RankOf T r) {b q : Nat} (h8 : fmA T (b : Int) = 8) (hq : elA T b = q) : r q < r b := by
  obtain ⟨h0, h1, x, hx, e⟩ := fmA_in (T := T) (a := b) (by rw [h8]; decide)
  rw [show (b : Int).toNat = b from rfl] at hx
  rw [elA_at hx] at hq
  have h := hr b x hx x.el (by
    unfold partsI
    rw [e, h8]
    simp)
  rw [hq] at h
  exact h
end Go.Proofs.Ythmldhppmpbadaa.Ty
namespace Go.Proofs.Ythmldhppmpbadaa.Ty
open Go.RowKit hiding Hid
open Go.Maps Go.Proofs.Ythmldhppmpbadaa.Tx Go.Proofs.Ythmldhppmpbadaa.Lx Go.Proofs.Ythmldhppmpbadaa.Tr Go.Proofs.Ythmldhppmpbadaa.Mp
set_option linter.unusedVariables false
set_option linter.unusedSimpArgs false
set_option maxRecDepth 100000

set_option maxHeartbeats 4000000 in
theorem fopen_at {w : World} {o : Option Addr} {T : List Tt} (cp : Nat) (H : Tab w o T) (G : GoodP T) (hcp : T.length ≤ cp) {a b : Nat} (ha : a < T.length) (hb : b < T.length) : Calls Try.prog 101 #[.slice o T.length cp, .int .i64 a, .int .i64 b] w (BQ (FitO T a b) w) := by
  obtain ⟨ad, la, rfl, _⟩ := H.at (List.getElem?_eq_getElem ha)
  have HT := hide H
  have HG := hide G
  have HCP := hide hcp
  obtain ⟨rk, hrk⟩ := G.rank
  have HR := hide hrk
  clear H G hcp hrk
  go_enter Try.func101, Try.ntmps101
  go_wp2
  go_loopg [1, 2] (rk b) (fun k av bv W => ∃ p q : Nat, av = .int .i64 p ∧ bv = .int .i64 q ∧ p < T.length ∧ q < T.length ∧ Hid (k = rk q) ∧ Hid (w.grownBy W none) ∧ Hid (FitO T a b ↔ FitO T p q))
  case atStart => exact ⟨a, b, rfl, rfl, ha, hb, hide rfl, hide (grown_refl _ _), hide Iff.rfl⟩
  case round =>
    obtain ⟨p, q, rfl, rfl, hp, hq, HK, HW, HE⟩ := hrel
    have HTW := hide (HT.out.kept HW.out)
    obtain ⟨B, hB⟩ : ∃ B, ad.add (p * 10) = B := ⟨_, rfl⟩
    obtain ⟨B2, hB2⟩ : ∃ B, ad.add (q * 10) = B := ⟨_, rfl⟩
    have c0 := form_cell HTW.out hp hB
    have c1 := form_cell HTW.out hq hB2
    have d0 := elem_cell HTW.out hp hB
    have d1 := elem_cell HTW.out hq hB2
    have bl := block_lt_of_cell c0
    have bl2 := block_lt_of_cell c1
    have jp : (p : Int) < T.length := by omega
    have jq : (q : Int) < T.length := by omega
    obtain ⟨x, hx⟩ : ∃ x, fmA T (p : Int) = x := ⟨_, rfl⟩
    obtain ⟨y, hy⟩ : ∃ x, fmA T (q : Int) = x := ⟨_, rfl⟩
    obtain ⟨p2, hp2, hp2l⟩ := el_plc HG.out hp
    obtain ⟨q2, hq2, hq2l⟩ := el_plc HG.out hq
    have HX := hide hx
    have HY := hide hy
    have HEp := hide hp2
    have HEq := hide hq2
    rw [hx] at c0
    rw [hy] at c1
    rw [hp2] at d0
    rw [hq2] at d1
    clear hx hy hp2 hq2
    by_cases hyes : y = 8 ∧ (x = 7 ∨ x = 8)
    case neg =>
      have HN := hide hyes
      have HW' := HW
      by_cases y8 : y = 8
      · subst y8
        have x7 : (x == 7) = false := by simp; omega
        have x8 : (x == 8) = false := by simp; omega
        clear hyes
        go_wp2
        go_ret
        refine BQ.of HW.out ⟨(fun e => by cases e), fun h => ?_⟩
        have h1 := (HE.out.1 h).form
        rw [HX.out, HY.out] at h1
        exact (HN.out ⟨by trivial, h1.2⟩).elim
      · have y8' : (y == 8) = false := by simpa using y8
        clear hyes
        go_wp2
        go_ret
        refine BQ.of HW.out ⟨(fun e => by cases e), fun h => ?_⟩
        have h1 := (HE.out.1 h).form
        rw [HX.out, HY.out] at h1
        exact absurd h1 HN.out
    case pos =>
      obtain ⟨rfl, hx78⟩ := hyes
      have HF := hide hx78
      have HP2 := hide (plc_at hp2l)
      have HQ2 := hide (plc_at hq2l)
      have jp2 : (p2 : Int) < T.length := by omega
      have jq2 : (q2 : Int) < T.length := by omega
      have HST := hide (show FitO T p q ↔ (SameP T p2 q2 ∨ FitO T p2 q2) by
        have h1 : FitO T p q ↔ _ := FitO.iff
        rw [HX.out, HY.out, HEp.out, HEq.out] at h1
        exact h1.trans ⟨fun h => h.2.2, fun h => ⟨rfl, hx78, h⟩⟩)
      have HDN := hide (open_down HR.out HY.out HEq.out)
      by_cases hs : SameP T (p2 : Int) (q2 : Int)
      · have HS := hide hs
        have HS2 := hide hs
        clear hs
        rcases hx78 with rfl | rfl
        all_goals (
          go_upto_region 2 with (fail)
          skip; refine wp_region_inN (fun W => W.cell? ⟨B.block, B.off + 4, none⟩ = some (.int .i64 (p2 : Int)) ∧ W.cell? ⟨B2.block, B2.off + 4, none⟩ = some (.int .i64 (q2 : Int))) [11] (Pn.of [(1, 0), (1, 1), (1, 2), (1, 3), (1, 4), (1, 5), (1, 6), (1, 7), (1, 8), (1, 9), (1, 10), (0, 11)] .nil) (by kernel_rfl) (by kernel_rfl) (by kernel_rfl) (by kernel_rfl) (fun _ _ d _ _ h => by cases d <;> exact h) ⟨d0, d1⟩ ?_
          (refine inN_read (v := ?_) rfl (Or.inl ⟨by rfl, ?_⟩) ?_; rotate_left 1; (focus (intro W hSW; clear hSW; go_simp; (try (with_reducible rfl)))); (try simp only [Act.put, List.getElem_toArray, List.getElem_cons_zero, List.getElem_cons_succ, List.setIfInBounds_toArray, List.set_cons_zero, List.set_cons_succ]))
          (refine inN_read (v := ?_) rfl (Or.inl ⟨by rfl, ?_⟩) ?_; rotate_left 1; (focus (intro W hSW; clear hSW; go_simp; (try (with_reducible rfl)))); (try simp only [Act.put, List.getElem_toArray, List.getElem_cons_zero, List.getElem_cons_succ, List.setIfInBounds_toArray, List.set_cons_zero, List.set_cons_succ]))
          (refine inN_read (v := ?_) rfl (Or.inl ⟨by rfl, ?_⟩) ?_; rotate_left 1; (focus (intro W hSW; clear hSW; go_simp; (try (with_reducible rfl)))); (try simp only [Act.put, List.getElem_toArray, List.getElem_cons_zero, List.getElem_cons_succ, List.setIfInBounds_toArray, List.set_cons_zero, List.set_cons_succ]))
          (refine inN_read (v := ?_) rfl (Or.inl ⟨by rfl, ?_⟩) ?_; rotate_left 1; (focus (intro W hSW; clear hSW; go_simp; (try (with_reducible rfl)))); (try simp only [Act.put, List.getElem_toArray, List.getElem_cons_zero, List.getElem_cons_succ, List.setIfInBounds_toArray, List.set_cons_zero, List.set_cons_succ]))
          (refine inN_read rfl (yl_cell tcI rfl rfl rfl (fun W hS => hS.1)) ?_; (try simp only [Act.put, List.getElem_toArray, List.getElem_cons_zero, List.getElem_cons_succ, List.setIfInBounds_toArray, List.set_cons_zero, List.set_cons_succ]))
          (refine inN_read (v := ?_) rfl (Or.inl ⟨by rfl, ?_⟩) ?_; rotate_left 1; (focus (intro W hSW; clear hSW; go_simp; (try (with_reducible rfl)))); (try simp only [Act.put, List.getElem_toArray, List.getElem_cons_zero, List.getElem_cons_succ, List.setIfInBounds_toArray, List.set_cons_zero, List.set_cons_succ]))
          (refine inN_read (v := ?_) rfl (Or.inl ⟨by rfl, ?_⟩) ?_; rotate_left 1; (focus (intro W hSW; clear hSW; go_simp; (try (with_reducible rfl)))); (try simp only [Act.put, List.getElem_toArray, List.getElem_cons_zero, List.getElem_cons_succ, List.setIfInBounds_toArray, List.set_cons_zero, List.set_cons_succ]))
          (refine inN_read (v := ?_) rfl (Or.inl ⟨by rfl, ?_⟩) ?_; rotate_left 1; (focus (intro W hSW; clear hSW; go_simp; (try (with_reducible rfl)))); (try simp only [Act.put, List.getElem_toArray, List.getElem_cons_zero, List.getElem_cons_succ, List.setIfInBounds_toArray, List.set_cons_zero, List.set_cons_succ]))
          (refine inN_read (v := ?_) rfl (Or.inl ⟨by rfl, ?_⟩) ?_; rotate_left 1; (focus (intro W hSW; clear hSW; go_simp; (try (with_reducible rfl)))); (try simp only [Act.put, List.getElem_toArray, List.getElem_cons_zero, List.getElem_cons_succ, List.setIfInBounds_toArray, List.set_cons_zero, List.set_cons_succ]))
          (refine inN_read rfl (yl_cell tcI rfl rfl rfl (fun W hS => hS.2)) ?_; (try simp only [Act.put, List.getElem_toArray, List.getElem_cons_zero, List.getElem_cons_succ, List.setIfInBounds_toArray, List.set_cons_zero, List.set_cons_succ]))
          (refine inN_read (v := ?_) rfl (Or.inl ⟨by rfl, ?_⟩) ?_; rotate_left 1; (focus (intro W hSW; clear hSW; go_simp; (try (with_reducible rfl)))); (try simp only [Act.put, List.getElem_toArray, List.getElem_cons_zero, List.getElem_cons_succ, List.setIfInBounds_toArray, List.set_cons_zero, List.set_cons_succ]))
          (refine inN_pure (v := ?_) rfl (Or.inl ⟨by rfl, ?_⟩) ?_; rotate_left 1; (focus (intro W hSW; clear hSW; go_simp; (try (with_reducible rfl)))); (try simp only [Act.put, List.getElem_toArray, List.getElem_cons_zero, List.getElem_cons_succ, List.setIfInBounds_toArray, List.set_cons_zero, List.set_cons_succ]))
          refine inN_end ?_
          replace HW := hide (HW.out.trans (d1_g _))
          replace HTW := hide (HT.out.kept HW.out)
          go_wp2_with (go_at_call 56; refine (same_at cp HTW.out HG.out HCP.out _ _ HP2.out HQ2.out).mono ?_; rintro e w2 ⟨r, rfl, hg, hr⟩; obtain rfl : r = true := by { have hs := HS.out; clear HS; cases r <;> simp_all }; replace HW := hide (HW.out.trans hg); clear hg hr)
          go_ret
          exact BQ.of HW.out ⟨fun _ => HE.out.2 (HST.out.2 (.inl HS2.out)), fun _ => rfl⟩)
      · have HS := hide hs
        have HS2 := hide hs
        clear hs
        rcases hx78 with rfl | rfl
        all_goals (
          go_upto_region 2 with (fail)
          skip; refine wp_region_inN (fun W => W.cell? ⟨B.block, B.off + 4, none⟩ = some (.int .i64 (p2 : Int)) ∧ W.cell? ⟨B2.block, B2.off + 4, none⟩ = some (.int .i64 (q2 : Int))) [11] (Pn.of [(1, 0), (1, 1), (1, 2), (1, 3), (1, 4), (1, 5), (1, 6), (1, 7), (1, 8), (1, 9), (1, 10), (0, 11)] .nil) (by kernel_rfl) (by kernel_rfl) (by kernel_rfl) (by kernel_rfl) (fun _ _ d _ _ h => by cases d <;> exact h) ⟨d0, d1⟩ ?_
          (refine inN_read (v := ?_) rfl (Or.inl ⟨by rfl, ?_⟩) ?_; rotate_left 1; (focus (intro W hSW; clear hSW; go_simp; (try (with_reducible rfl)))); (try simp only [Act.put, List.getElem_toArray, List.getElem_cons_zero, List.getElem_cons_succ, List.setIfInBounds_toArray, List.set_cons_zero, List.set_cons_succ]))
          (refine inN_read (v := ?_) rfl (Or.inl ⟨by rfl, ?_⟩) ?_; rotate_left 1; (focus (intro W hSW; clear hSW; go_simp; (try (with_reducible rfl)))); (try simp only [Act.put, List.getElem_toArray, List.getElem_cons_zero, List.getElem_cons_succ, List.setIfInBounds_toArray, List.set_cons_zero, List.set_cons_succ]))
          (refine inN_read (v := ?_) rfl (Or.inl ⟨by rfl, ?_⟩) ?_; rotate_left 1; (focus (intro W hSW; clear hSW; go_simp; (try (with_reducible rfl)))); (try simp only [Act.put, List.getElem_toArray, List.getElem_cons_zero, List.getElem_cons_succ, List.setIfInBounds_toArray, List.set_cons_zero, List.set_cons_succ]))
          (refine inN_read (v := ?_) rfl (Or.inl ⟨by rfl, ?_⟩) ?_; rotate_left 1; (focus (intro W hSW; clear hSW; go_simp; (try (with_reducible rfl)))); (try simp only [Act.put, List.getElem_toArray, List.getElem_cons_zero, List.getElem_cons_succ, List.setIfInBounds_toArray, List.set_cons_zero, List.set_cons_succ]))
          (refine inN_read rfl (yl_cell tcI rfl rfl rfl (fun W hS => hS.1)) ?_; (try simp only [Act.put, List.getElem_toArray, List.getElem_cons_zero, List.getElem_cons_succ, List.setIfInBounds_toArray, List.set_cons_zero, List.set_cons_succ]))
          (refine inN_read (v := ?_) rfl (Or.inl ⟨by rfl, ?_⟩) ?_; rotate_left 1; (focus (intro W hSW; clear hSW; go_simp; (try (with_reducible rfl)))); (try simp only [Act.put, List.getElem_toArray, List.getElem_cons_zero, List.getElem_cons_succ, List.setIfInBounds_toArray, List.set_cons_zero, List.set_cons_succ]))
          (refine inN_read (v := ?_) rfl (Or.inl ⟨by rfl, ?_⟩) ?_; rotate_left 1; (focus (intro W hSW; clear hSW; go_simp; (try (with_reducible rfl)))); (try simp only [Act.put, List.getElem_toArray, List.getElem_cons_zero, List.getElem_cons_succ, List.setIfInBounds_toArray, List.set_cons_zero, List.set_cons_succ]))
          (refine inN_read (v := ?_) rfl (Or.inl ⟨by rfl, ?_⟩) ?_; rotate_left 1; (focus (intro W hSW; clear hSW; go_simp; (try (with_reducible rfl)))); (try simp only [Act.put, List.getElem_toArray, List.getElem_cons_zero, List.getElem_cons_succ, List.setIfInBounds_toArray, List.set_cons_zero, List.set_cons_succ]))
          (refine inN_read (v := ?_) rfl (Or.inl ⟨by rfl, ?_⟩) ?_; rotate_left 1; (focus (intro W hSW; clear hSW; go_simp; (try (with_reducible rfl)))); (try simp only [Act.put, List.getElem_toArray, List.getElem_cons_zero, List.getElem_cons_succ, List.setIfInBounds_toArray, List.set_cons_zero, List.set_cons_succ]))
          (refine inN_read rfl (yl_cell tcI rfl rfl rfl (fun W hS => hS.2)) ?_; (try simp only [Act.put, List.getElem_toArray, List.getElem_cons_zero, List.getElem_cons_succ, List.setIfInBounds_toArray, List.set_cons_zero, List.set_cons_succ]))
          (refine inN_read (v := ?_) rfl (Or.inl ⟨by rfl, ?_⟩) ?_; rotate_left 1; (focus (intro W hSW; clear hSW; go_simp; (try (with_reducible rfl)))); (try simp only [Act.put, List.getElem_toArray, List.getElem_cons_zero, List.getElem_cons_succ, List.setIfInBounds_toArray, List.set_cons_zero, List.set_cons_succ]))
          (refine inN_pure (v := ?_) rfl (Or.inl ⟨by rfl, ?_⟩) ?_; rotate_left 1; (focus (intro W hSW; clear hSW; go_simp; (try (with_reducible rfl)))); (try simp only [Act.put, List.getElem_toArray, List.getElem_cons_zero, List.getElem_cons_succ, List.setIfInBounds_toArray, List.set_cons_zero, List.set_cons_succ]))
          refine inN_end ?_
          replace HW := hide (HW.out.trans (d1_g _))
          replace HTW := hide (HT.out.kept HW.out)
          go_wp2_with (go_at_call 56; refine (same_at cp HTW.out HG.out HCP.out _ _ HP2.out HQ2.out).mono ?_; rintro e w2 ⟨r, rfl, hg, hr⟩; obtain rfl : r = false := by { have hs := HS.out; clear HS; cases r <;> simp_all }; replace HW := hide (HW.out.trans hg); clear hg hr)
          go_roundg (rk q2)
          case measure => (have h1 := HDN.out; have h2 := HK.out; omega)
          case rel => exact ⟨p2, q2, rfl, rfl, hp2l, hq2l, hide rfl, HW, hide (HE.out.trans (HST.out.trans ⟨fun h => h.elim (fun h => absurd h HS2.out) id, .inr⟩))⟩)
set_option maxHeartbeats 4000000 in
theorem fvar_at {w : World} {o : Option Addr} {T : List Tt} (cp : Nat) (H : Tab w o T) (G : GoodP T) (hcp : T.length ≤ cp) {a b : Nat} (ha : a < T.length) (hb : b < T.length) : Calls Try.prog 64 #[.slice o T.length cp, .int .i64 a, .int .i64 b] w (BQ (FitV T a b) w) := by
  obtain ⟨ad, la, rfl, _⟩ := H.at (List.getElem?_eq_getElem ha)
  have HTW := hide H
  have HG := hide G
  have HCP := hide hcp
  have HPa := hide (plc_at ha)
  have HPb := hide (plc_at hb)
  have HW := hide (grown_refl w none)
  obtain ⟨B, hB⟩ : ∃ B, ad.add (a * 10) = B := ⟨_, rfl⟩
  have c0 := form_cell H ha hB
  have bl := block_lt_of_cell c0
  have ja : (a : Int) < T.length := by omega
  have jb : (b : Int) < T.length := by omega
  obtain ⟨A, hA⟩ : ∃ A, FitV T a b = A := ⟨_, rfl⟩
  have HA := hide hA
  rw [hA]
  obtain ⟨x, hx⟩ : ∃ x, fmA T (a : Int) = x := ⟨_, rfl⟩
  have HX0 := hide hx
  rw [hx] at c0
  cases h99 : (fmA T (a : Int) == 9 && fmA T (b : Int) == 9) with
  | true =>
    have h9 := h99
    simp only [Bool.and_eq_true, beq_iff_eq] at h9
    obtain rfl : x = 9 := by rw [← hx]; exact h9.1
    have H9 := hide h9
    have HV := hide (show A ↔ (SameP T a b ∨ ExA T a b ∨ FitO T a b) by
      rw [← hA]
      unfold FitV
      rw [hx]
      exact ⟨fun h => h.2.imp id (fun h => h.imp (fun h => h.2.2) id), fun h => ⟨by decide, h.imp id (fun h => h.imp (fun h => ⟨rfl, h9.2, h⟩) id)⟩⟩)
    clear H G hcp hA h9 hx
    by_cases hs : SameP T (a : Int) (b : Int)
    · have HS := hide hs
      have HS2 := hide hs
      clear hs
      go_enter Try.func64, Try.ntmps64
      go_wp2_with (first | (go_at_call 56; refine (same_at cp HTW.out HG.out HCP.out _ _ HPa.out HPb.out).mono ?_; rintro e w2 ⟨r, rfl, hg, hr⟩; obtain rfl : r = true := by { have hs := HS.out; clear HS; cases r <;> simp_all }; replace HTW := hide (HTW.out.kept hg); replace HW := hide (HW.out.trans hg); clear hg hr) | (go_at_call 87; refine (both_at cp _ HTW.out ha hb).mono ?_; rw [h99]; rintro e w2 ⟨rfl, hw⟩; have hw := hw.symm; subst hw))
      go_ret
      exact BQ.of HW.out ⟨fun _ => HV.out.2 (.inl HS2.out), fun _ => rfl⟩
    · have HS := hide hs
      have HS2 := hide hs
      clear hs
      by_cases hX : ExA T (a : Int) (b : Int)
      · have HX := hide hX
        have HX2 := hide hX
        clear hX
        go_enter Try.func64, Try.ntmps64
        go_wp2_with (first | (go_at_call 56; refine (same_at cp HTW.out HG.out HCP.out _ _ HPa.out HPb.out).mono ?_; rintro e w2 ⟨r, rfl, hg, hr⟩; obtain rfl : r = false := by { have hs := HS.out; clear HS; cases r <;> simp_all }; replace HTW := hide (HTW.out.kept hg); replace HW := hide (HW.out.trans hg); clear hg hr) | (go_at_call 87; refine (both_at cp _ HTW.out ha hb).mono ?_; rw [h99]; rintro e w2 ⟨rfl, hw⟩; have hw := hw.symm; subst hw) | (go_at_call 57; refine (extends_at cp HTW.out HG.out HCP.out ha hb).mono ?_; rintro e w3 ⟨r, rfl, hg, hr⟩; obtain rfl : r = true := by { have hs := HX.out; clear HX; cases r <;> simp_all }; replace HTW := hide (HTW.out.kept hg); replace HW := hide (HW.out.trans hg); clear hg hr))
        go_ret
        exact BQ.of HW.out ⟨fun _ => HV.out.2 (.inr (.inl HX2.out)), fun _ => rfl⟩
      · have HX := hide hX
        have HX2 := hide hX
        clear hX
        go_enter Try.func64, Try.ntmps64
        go_wp2_with (first | (go_at_call 56; refine (same_at cp HTW.out HG.out HCP.out _ _ HPa.out HPb.out).mono ?_; rintro e w2 ⟨r, rfl, hg, hr⟩; obtain rfl : r = false := by { have hs := HS.out; clear HS; cases r <;> simp_all }; replace HTW := hide (HTW.out.kept hg); replace HW := hide (HW.out.trans hg); clear hg hr) | (go_at_call 87; refine (both_at cp _ HTW.out ha hb).mono ?_; rw [h99]; rintro e w2 ⟨rfl, hw⟩; have hw := hw.symm; subst hw) | (go_at_call 57; refine (extends_at cp HTW.out HG.out HCP.out ha hb).mono ?_; rintro e w3 ⟨r, rfl, hg, hr⟩; obtain rfl : r = false := by { have hs := HX.out; clear HX; cases r <;> simp_all }; replace HTW := hide (HTW.out.kept hg); replace HW := hide (HW.out.trans hg); clear hg hr) | (go_at_call 101; refine (fopen_at cp HTW.out HG.out HCP.out ha hb).mono ?_; rintro e w3 ⟨r, rfl, hg, hr⟩; have HRR := hide hr; replace HTW := hide (HTW.out.kept hg); replace HW := hide (HW.out.trans hg); clear hg hr))
        go_ret
        refine BQ.of HW.out ?_
        rw [HV.out]
        exact ⟨fun h => .inr (.inr (HRR.out.1 h)), fun h => HRR.out.2 (h.elim (fun h => absurd h HS2.out) (fun h => h.elim (fun h => absurd h HX2.out) id))⟩
  | false =>
    have H9 := hide (show ¬ (fmA T (a : Int) = 9 ∧ fmA T (b : Int) = 9) from fun h => by rw [h.1, h.2] at h99; cases h99)
    by_cases hz : x = 0 ∨ x = 5 ∨ x = 6
    · have HV := hide (show ¬ A from fun h => by
        rw [← hA] at h
        have := h.1
        rw [hx] at this
        omega)
      clear H G hcp hA
      rcases hz with rfl | rfl | rfl
      all_goals (
        go_enter Try.func64, Try.ntmps64
        go_wp2
        go_ret
        exact BQ.of HW.out ⟨(fun e => by cases e), fun h => absurd h HV.out⟩)
    · have x0 : (x == 0) = false := by simp; omega
      have x5 : (x == 5) = false := by simp; omega
      have x6 : (x == 6) = false := by simp; omega
      have HV := hide (show A ↔ (SameP T a b ∨ FitO T a b) by
        rw [← hA]
        unfold FitV
        exact ⟨fun h => h.2.imp id (fun h => h.elim (fun h => absurd ⟨h.1, h.2.1⟩ H9.out) id), fun h => ⟨by rw [hx]; omega, h.imp id .inr⟩⟩)
      clear H G hcp hA hz hx
      by_cases hs : SameP T (a : Int) (b : Int)
      · have HS := hide hs
        have HS2 := hide hs
        clear hs
        go_enter Try.func64, Try.ntmps64
        go_wp2_with (first | (go_at_call 56; refine (same_at cp HTW.out HG.out HCP.out _ _ HPa.out HPb.out).mono ?_; rintro e w2 ⟨r, rfl, hg, hr⟩; obtain rfl : r = true := by { have hs := HS.out; clear HS; cases r <;> simp_all }; replace HTW := hide (HTW.out.kept hg); replace HW := hide (HW.out.trans hg); clear hg hr) | (go_at_call 87; refine (both_at cp _ HTW.out ha hb).mono ?_; rw [h99]; rintro e w2 ⟨rfl, hw⟩; have hw := hw.symm; subst hw))
        go_ret
        exact BQ.of HW.out ⟨fun _ => HV.out.2 (.inl HS2.out), fun _ => rfl⟩
      · have HS := hide hs
        have HS2 := hide hs
        clear hs
        go_enter Try.func64, Try.ntmps64
        go_wp2_with (first | (go_at_call 56; refine (same_at cp HTW.out HG.out HCP.out _ _ HPa.out HPb.out).mono ?_; rintro e w2 ⟨r, rfl, hg, hr⟩; obtain rfl : r = false := by { have hs := HS.out; clear HS; cases r <;> simp_all }; replace HTW := hide (HTW.out.kept hg); replace HW := hide (HW.out.trans hg); clear hg hr) | (go_at_call 87; refine (both_at cp _ HTW.out ha hb).mono ?_; rw [h99]; rintro e w2 ⟨rfl, hw⟩; have hw := hw.symm; subst hw) | (go_at_call 101; refine (fopen_at cp HTW.out HG.out HCP.out ha hb).mono ?_; rintro e w3 ⟨r, rfl, hg, hr⟩; have HRR := hide hr; replace HTW := hide (HTW.out.kept hg); replace HW := hide (HW.out.trans hg); clear hg hr))
        go_ret
        refine BQ.of HW.out ?_
        rw [HV.out]
        exact ⟨fun h => .inr (HRR.out.1 h), fun h => HRR.out.2 (h.elim (fun h => absurd h HS2.out) id)⟩
set_option maxHeartbeats 4000000 in
theorem fval_at {w : World} {o : Option Addr} {T : List Tt} (cp : Nat) (H : Tab w o T) (G : GoodP T) (hcp : T.length ≤ cp) {a b : Nat} (ha : a < T.length) (hb : b < T.length) : Calls Try.prog 65 #[.slice o T.length cp, .int .i64 a, .int .i64 b] w (BQ (FitW T a b) w) := by
  obtain ⟨ad, la, rfl, _⟩ := H.at (List.getElem?_eq_getElem ha)
  have HTW := hide H
  have HG := hide G
  have HCP := hide hcp
  have HW := hide (grown_refl w none)
  obtain ⟨B, hB⟩ : ∃ B, ad.add (a * 10) = B := ⟨_, rfl⟩
  obtain ⟨B2, hB2⟩ : ∃ B, ad.add (b * 10) = B := ⟨_, rfl⟩
  have c0 := form_cell H ha hB
  have c1 := form_cell H hb hB2
  have d1 := elem_cell H hb hB2
  have bl := block_lt_of_cell c0
  have bl2 := block_lt_of_cell c1
  have ja : (a : Int) < T.length := by omega
  have jb : (b : Int) < T.length := by omega
  obtain ⟨x, hx⟩ : ∃ x, fmA T (a : Int) = x := ⟨_, rfl⟩
  obtain ⟨y, hy⟩ : ∃ x, fmA T (b : Int) = x := ⟨_, rfl⟩
  obtain ⟨f, hf⟩ : ∃ x, elA T (b : Int) = x := ⟨_, rfl⟩
  obtain ⟨A, hA⟩ : ∃ A, FitW T a b = A := ⟨_, rfl⟩
  have HA := hide (show A ↔ ((y = 8 ∧ (FitO T a b ∨ (x = 6 ∧ f = 3))) ∨ (y ≠ 8 ∧ ¬ (y = 7 ∧ (x = 8 ∨ x = 6)) ∧ AsgA T a b)) by rw [← hA, ← hx, ← hy, ← hf]; exact Iff.rfl)
  rw [hA]
  have hu : (fmA T (a : Int) == 8 || fmA T (a : Int) == 6) = (x == 8 || x == 6) := by rw [hx]
  rw [hx] at c0
  rw [hy] at c1
  rw [hf] at d1
  clear H G hcp hA hx hy hf
  by_cases y8 : y = 8
  · subst y8
    by_cases hX : FitO T (a : Int) (b : Int)
    · have HX := hide hX
      have HX2 := hide hX
      clear hX
      go_enter Try.func65, Try.ntmps65
      go_wp2_with (first | (go_at_call 101; refine (fopen_at cp HTW.out HG.out HCP.out ha hb).mono ?_; rintro e w3 ⟨r, rfl, hg, hr⟩; obtain rfl : r = true := by { have hs := HX.out; clear HX; cases r <;> simp_all }; have k1 := hg.cell c1 (by simp); have k0 := hg.cell c0 (by simp); have kd := hg.cell d1 (by simp); have bk0 := block_lt_of_cell k0; have bk1 := block_lt_of_cell k1; replace HTW := hide (HTW.out.kept hg); replace HW := hide (HW.out.trans hg); clear hg hr))
      go_ret
      exact BQ.of HW.out ⟨fun _ => HA.out.2 (.inl ⟨by trivial, .inl HX2.out⟩), fun _ => rfl⟩
    · have HX := hide hX
      have HX2 := hide hX
      clear hX
      have HA2 := hide (show A ↔ (x = 6 ∧ f = 3) from HA.out.trans ⟨fun h => h.elim (fun h => h.2.elim (fun h => absurd h HX2.out) id) (fun h => absurd rfl h.1), fun h => .inl ⟨rfl, .inr h⟩⟩)
      by_cases x6 : x = 6
      · subst x6
        go_enter Try.func65, Try.ntmps65
        go_wp2_with (first | (go_at_call 101; refine (fopen_at cp HTW.out HG.out HCP.out ha hb).mono ?_; rintro e w3 ⟨r, rfl, hg, hr⟩; obtain rfl : r = false := by { have hs := HX.out; clear HX; cases r <;> simp_all }; have k1 := hg.cell c1 (by simp); have k0 := hg.cell c0 (by simp); have kd := hg.cell d1 (by simp); have bk0 := block_lt_of_cell k0; have bk1 := block_lt_of_cell k1; replace HTW := hide (HTW.out.kept hg); replace HW := hide (HW.out.trans hg); clear hg hr))
        go_ret
        refine BQ.of HW.out ?_
        rw [HA2.out]
        simp
      · have x6' : (x == 6) = false := by simpa using x6
        go_enter Try.func65, Try.ntmps65
        go_wp2_with (first | (go_at_call 101; refine (fopen_at cp HTW.out HG.out HCP.out ha hb).mono ?_; rintro e w3 ⟨r, rfl, hg, hr⟩; obtain rfl : r = false := by { have hs := HX.out; clear HX; cases r <;> simp_all }; have k1 := hg.cell c1 (by simp); have k0 := hg.cell c0 (by simp); have kd := hg.cell d1 (by simp); have bk0 := block_lt_of_cell k0; have bk1 := block_lt_of_cell k1; replace HTW := hide (HTW.out.kept hg); replace HW := hide (HW.out.trans hg); clear hg hr))
        go_ret
        refine BQ.of HW.out ?_
        rw [HA2.out]
        simp [x6]
  · have y8' : (y == 8) = false := by simpa using y8
    by_cases y7 : y = 7
    · subst y7
      cases hxx : (x == 8 || x == 6) with
      | true =>
        rw [hxx] at hu
        have HN := hide (show ¬ A from fun h => by
          rcases HA.out.1 h with h | h
          · exact absurd h.1 (by decide)
          · refine h.2.1 ⟨rfl, ?_⟩
            simpa using hxx)
        clear hxx y8
        go_enter Try.func65, Try.ntmps65
        go_wp2_with (first | (go_at_call 102; refine (unsized_at cp HTW.out ha).mono ?_; rw [hu]; rintro e w2 ⟨rfl, hw⟩; have hw := hw.symm; subst hw))
        go_ret
        exact BQ.of HW.out ⟨(fun e => by cases e), fun h => absurd h HN.out⟩
      | false =>
        rw [hxx] at hu
        have HN := hide (show A ↔ AsgA T a b from HA.out.trans ⟨fun h => h.elim (fun h => absurd h.1 (by decide)) (fun h => h.2.2), fun h => .inr ⟨by decide, fun c => by have := c.2; simp at hxx; omega, h⟩⟩)
        clear hxx y8
        go_enter Try.func65, Try.ntmps65
        go_wp2_with (first | (go_at_call 102; refine (unsized_at cp HTW.out ha).mono ?_; rw [hu]; rintro e w2 ⟨rfl, hw⟩; have hw := hw.symm; subst hw) | (go_at_call 58; refine (assign_at cp HTW.out HG.out HCP.out ha hb).mono ?_; rintro e w3 ⟨r, rfl, hg, hr⟩; have HRR := hide hr; replace HTW := hide (HTW.out.kept hg); replace HW := hide (HW.out.trans hg); clear hg hr))
        go_ret
        refine BQ.of HW.out ?_
        rw [HN.out]
        exact HRR.out
    · have y7' : (y == 7) = false := by simpa using y7
      have HN := hide (show A ↔ AsgA T a b from HA.out.trans ⟨fun h => h.elim (fun h => absurd h.1 y8) (fun h => h.2.2), fun h => .inr ⟨y8, fun c => y7 c.1, h⟩⟩)
      clear y8 y7
      go_enter Try.func65, Try.ntmps65
      go_wp2_with (first | (go_at_call 102; refine (unsized_at cp HTW.out ha).mono ?_; rw [hu]; rintro e w2 ⟨rfl, hw⟩; have hw := hw.symm; subst hw) | (go_at_call 58; refine (assign_at cp HTW.out HG.out HCP.out ha hb).mono ?_; rintro e w3 ⟨r, rfl, hg, hr⟩; have HRR := hide hr; replace HTW := hide (HTW.out.kept hg); replace HW := hide (HW.out.trans hg); clear hg hr))
      go_ret
      refine BQ.of HW.out ?_
      rw [HN.out]
      exact HRR.out
end Go.Proofs.Ythmldhppmpbadaa.Ty
namespace Go.Proofs.Ythmldhppmpbadaa.Ty
open Go.RowKit hiding Hid
open Go.Maps Go.Proofs.Ythmldhppmpbadaa.Tx Go.Proofs.Ythmldhppmpbadaa.Lx Go.Proofs.Ythmldhppmpbadaa.Tr Go.Proofs.Ythmldhppmpbadaa.Mp
set_option linter.unusedVariables false
set_option linter.unusedSimpArgs false
set_option maxRecDepth 100000

set_option maxHeartbeats 4000000 in
theorem pfits_at {w : World} {o : Option Addr} {T : List Tt} (cp : Nat) (H : Tab w o T) (hcp : T.length ≤ cp) (a : Int) (v : Bool) (b : Int) : Calls Try.prog 31 #[.slice o T.length cp, .int .i64 a, .agg #[.bool v, .int .i64 b]] w (BQ (Snd T [a, b] ∧ FitA T a v b) w) := by
  have HTW := hide H
  have HCP := hide hcp
  have HC := hide (Cf.of (Cx.start w (fun _ => False)))
  obtain ⟨A, hA⟩ : ∃ A, (Snd T [a, b] ∧ FitA T a v b) = A := ⟨_, rfl⟩
  have HA := hide hA
  rw [hA]
  clear H hcp hA
  by_cases hs : Snd T [a, b]
  · have HG := hide hs.2
    obtain ⟨i, rfl, hi⟩ := inT_nat (hs.1 a (by simp))
    obtain ⟨j, rfl, hj⟩ := inT_nat (hs.1 b (by simp))
    have HS := hide hs
    have HS2 := hide hs
    clear hs
    cases v with
    | true =>
      go_enter Try.func31, Try.ntmps31
      go_wp2_with (first | (refine at_box 55 rfl ?_; refine cf_box rfl 55 _ rfl _ rfl HC.out ?_; intro pb w' hn hc; (replace HC := hide hc; clear hc)) | (refine at_bs 69 rfl ?_; go_loud (refine wl_op rfl (fun K' hK => ?_); refine cfo_bl 69 2 _ rfl 3 [.int .i64 (i : Int), .int .i64 (j : Int)] HC.out (by kernel_rfl) ?_; intro g w' hn hg hc; clear hg hn; (replace HC := hide hc; clear hc); refine hK _ _ ?_; clear hK K')) | (go_at_call 55; go_loud (refine (sound_at (l := [(i : Int), (j : Int)]) cp 2 (HTW.out.kept HC.out.cx.grown) HCP.out (cls_2 (cfcell HC.out (by repeat (first | exact List.Mem.head _ | apply List.Mem.tail)) (by repeat (first | exact GetS.cons _ (GetS.nil _) | apply GetS.skip))) (cfcell HC.out (by repeat (first | exact List.Mem.head _ | apply List.Mem.tail)) (by repeat (first | exact GetS.cons _ (GetS.nil _) | apply GetS.skip)))) (by simp)).mono ?_; rintro e w2 ⟨d, rfl, hg, hd⟩; obtain rfl : d = true := by { have hs := HS.out; unfold Snd at hs; clear HS; cases d <;> simp_all }; replace HC := hide (HC.out.g hg); clear hg hd)) | (first | (refine at_load 4 rfl ?_; refine wl_load_c rfl 4 _ rfl tcB rfl HC.out.cx (by repeat (first | exact List.Mem.head _ | apply List.Mem.tail)) (by repeat (first | exact GetS.cons _ (GetS.nil _) | apply GetS.skip)) ?_) | (refine at_load 3 rfl ?_; refine wl_load_c rfl 3 _ rfl tcI rfl HC.out.cx (by repeat (first | exact List.Mem.head _ | apply List.Mem.tail)) (by repeat (first | exact GetS.cons _ (GetS.nil _) | apply GetS.skip)) ?_)) | (go_at_call 64; refine (fvar_at cp (HTW.out.kept HC.out.cx.grown) HG.out HCP.out hi hj).mono ?_; rintro e w3 ⟨r, rfl, hg, hr⟩; have HRR := hide hr; replace HC := hide (HC.out.g hg); clear hg hr))
      go_ret
      refine BQ.of HC.out.cx.grown ?_
      rw [← HA.out, HRR.out]
      exact ⟨fun h => ⟨HS2.out, .inl ⟨rfl, h⟩⟩, fun h => h.2.elim (fun h => h.2) (fun h => by cases h.1)⟩
    | false =>
      go_enter Try.func31, Try.ntmps31
      go_wp2_with (first | (refine at_box 55 rfl ?_; refine cf_box rfl 55 _ rfl _ rfl HC.out ?_; intro pb w' hn hc; (replace HC := hide hc; clear hc)) | (refine at_bs 69 rfl ?_; go_loud (refine wl_op rfl (fun K' hK => ?_); refine cfo_bl 69 2 _ rfl 3 [.int .i64 (i : Int), .int .i64 (j : Int)] HC.out (by kernel_rfl) ?_; intro g w' hn hg hc; clear hg hn; (replace HC := hide hc; clear hc); refine hK _ _ ?_; clear hK K')) | (go_at_call 55; go_loud (refine (sound_at (l := [(i : Int), (j : Int)]) cp 2 (HTW.out.kept HC.out.cx.grown) HCP.out (cls_2 (cfcell HC.out (by repeat (first | exact List.Mem.head _ | apply List.Mem.tail)) (by repeat (first | exact GetS.cons _ (GetS.nil _) | apply GetS.skip))) (cfcell HC.out (by repeat (first | exact List.Mem.head _ | apply List.Mem.tail)) (by repeat (first | exact GetS.cons _ (GetS.nil _) | apply GetS.skip)))) (by simp)).mono ?_; rintro e w2 ⟨d, rfl, hg, hd⟩; obtain rfl : d = true := by { have hs := HS.out; unfold Snd at hs; clear HS; cases d <;> simp_all }; replace HC := hide (HC.out.g hg); clear hg hd)) | (first | (refine at_load 4 rfl ?_; refine wl_load_c rfl 4 _ rfl tcB rfl HC.out.cx (by repeat (first | exact List.Mem.head _ | apply List.Mem.tail)) (by repeat (first | exact GetS.cons _ (GetS.nil _) | apply GetS.skip)) ?_) | (refine at_load 3 rfl ?_; refine wl_load_c rfl 3 _ rfl tcI rfl HC.out.cx (by repeat (first | exact List.Mem.head _ | apply List.Mem.tail)) (by repeat (first | exact GetS.cons _ (GetS.nil _) | apply GetS.skip)) ?_)) | (go_at_call 65; refine (fval_at cp (HTW.out.kept HC.out.cx.grown) HG.out HCP.out hi hj).mono ?_; rintro e w3 ⟨r, rfl, hg, hr⟩; have HRR := hide hr; replace HC := hide (HC.out.g hg); clear hg hr))
      go_ret
      refine BQ.of HC.out.cx.grown ?_
      rw [← HA.out, HRR.out]
      exact ⟨fun h => ⟨HS2.out, .inr ⟨rfl, h⟩⟩, fun h => h.2.elim (fun h => by cases h.1) (fun h => h.2)⟩
  · have HS := hide hs
    have HS2 := hide hs
    clear hs
    go_enter Try.func31, Try.ntmps31
    go_wp2_with (first | (refine at_box 55 rfl ?_; refine cf_box rfl 55 _ rfl _ rfl HC.out ?_; intro pb w' hn hc; (replace HC := hide hc; clear hc)) | (refine at_bs 69 rfl ?_; go_loud (refine wl_op rfl (fun K' hK => ?_); refine cfo_bl 69 2 _ rfl 3 [.int .i64 a, .int .i64 b] HC.out (by kernel_rfl) ?_; intro g w' hn hg hc; clear hg hn; (replace HC := hide hc; clear hc); refine hK _ _ ?_; clear hK K')) | (go_at_call 55; go_loud (refine (sound_at (l := [a, b]) cp 2 (HTW.out.kept HC.out.cx.grown) HCP.out (cls_2 (cfcell HC.out (by repeat (first | exact List.Mem.head _ | apply List.Mem.tail)) (by repeat (first | exact GetS.cons _ (GetS.nil _) | apply GetS.skip))) (cfcell HC.out (by repeat (first | exact List.Mem.head _ | apply List.Mem.tail)) (by repeat (first | exact GetS.cons _ (GetS.nil _) | apply GetS.skip)))) (by simp)).mono ?_; rintro e w2 ⟨d, rfl, hg, hd⟩; obtain rfl : d = false := by { have hs := HS.out; unfold Snd at hs; clear HS; cases d <;> simp_all }; replace HC := hide (HC.out.g hg); clear hg hd)) | (first | (refine at_load 4 rfl ?_; refine wl_load_c rfl 4 _ rfl tcB rfl HC.out.cx (by repeat (first | exact List.Mem.head _ | apply List.Mem.tail)) (by repeat (first | exact GetS.cons _ (GetS.nil _) | apply GetS.skip)) ?_) | (refine at_load 3 rfl ?_; refine wl_load_c rfl 3 _ rfl tcI rfl HC.out.cx (by repeat (first | exact List.Mem.head _ | apply List.Mem.tail)) (by repeat (first | exact GetS.cons _ (GetS.nil _) | apply GetS.skip)) ?_)))
    go_ret
    refine BQ.of HC.out.cx.grown ⟨(fun h => by cases h), fun h => ?_⟩
    rw [← HA.out] at h
    exact absurd h.1 HS2.out
end Go.Proofs.Ythmldhppmpbadaa.Ty
