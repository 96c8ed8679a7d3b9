/-
  Package types: two forms, variables, what has no size; tables that are known to be good.
-/
import Derived.Test.YthmldhppmpbadaaTy18
namespace Go.Proofs.Ythmldhppmpbadaa.Ty
open Go.RowKit hiding Hid
open Go.Maps Go.Proofs.Ythmldhppmpbadaa.Tx Go.Proofs.Ythmldhppmpbadaa.Lx Go.Proofs.Ythmldhppmpbadaa.Tr Go.Proofs.Ythmldhppmpbadaa.Mp
set_option linter.unusedVariables false
set_option linter.unusedSimpArgs false
set_option maxRecDepth 100000

theorem form_cell {w : World} {ad : Addr} {T : List Tt} {q : Nat} {B : Addr} (H : Tab w (some ad) T) (hq : q < T.length) (hB : ad.add (q * 10) = B) : w.cell? B = some (.int .i64 (fmA T (q : Int))) := by
  obtain ⟨x, hx⟩ : ∃ x, T[q]? = some x := ⟨T[q], List.getElem?_eq_getElem hq⟩
  obtain ⟨ad', la, e1, rfl, hcl, hp⟩ := H.at hx
  cases e1
  rw [hB] at hcl
  rw [fmA_at hx]
  exact (ten_of hcl).1
set_option maxHeartbeats 2000000 in
theorem both_at {w : World} {ad : Addr} {T : List Tt} (cp : Nat) (f : Int) {a b : Nat} (H : Tab w (some ad) T) (ha : a < T.length) (hb : b < T.length) : Calls Try.prog 87 #[.slice (some ad) T.length cp, .int .i64 f, .int .i64 a, .int .i64 b] w fun e w' => e = .returned (.bool (fmA T a == f && fmA T b == f)) ∧ w' = w := by
  have j1 : (a : Int) < T.length := by omega
  have j2 : (b : Int) < T.length := by omega
  obtain ⟨B, hB⟩ : ∃ B, ad.add (a * 10) = B := ⟨_, rfl⟩
  obtain ⟨B2, hB2⟩ : ∃ B, ad.add (b * 10) = B := ⟨_, rfl⟩
  have c0 := form_cell H ha hB
  have c1 := form_cell H hb hB2
  have bl := block_lt_of_cell c0
  have bl2 := block_lt_of_cell c1
  obtain ⟨x, hx⟩ : ∃ x, fmA T (a : Int) = x := ⟨_, rfl⟩
  obtain ⟨y, hy⟩ : ∃ y, fmA T (b : Int) = y := ⟨_, rfl⟩
  rw [hx] at c0 ⊢
  rw [hy] at c1 ⊢
  clear hx hy H
  by_cases h : x = f
  · have h' : (x == f) = true := by simpa using h
    clear h
    go_enter Try.func87, Try.ntmps87
    go_wp2
    go_ret
    simp [h']
  · have h' : (x == f) = false := by simpa using h
    clear h
    go_enter Try.func87, Try.ntmps87
    go_wp2
    go_ret
    simp [h']
def variF (f : Int) : Bool := !(f == 0 || f == 5 || f == 6 || f == 8)
set_option maxHeartbeats 2000000 in
theorem variable_at {w : World} {ad : Addr} {T : List Tt} (cp : Nat) {a : Nat} (H : Tab w (some ad) T) (ha : a < T.length) : Calls Try.prog 88 #[.slice (some ad) T.length cp, .int .i64 a] w fun e w' => e = .returned (.bool (variF (fmA T a))) ∧ w' = w := by
  have j1 : (a : Int) < T.length := by omega
  obtain ⟨B, hB⟩ : ∃ B, ad.add (a * 10) = B := ⟨_, rfl⟩
  have c0 := form_cell H ha hB
  have bl := block_lt_of_cell c0
  obtain ⟨x, hx⟩ : ∃ x, fmA T (a : Int) = x := ⟨_, rfl⟩
  rw [hx] at c0 ⊢
  clear hx H
  unfold variF
  go_enter Try.func88, Try.ntmps88
  go_wp2
  all_goals go_ret
  all_goals simp_all
set_option maxHeartbeats 2000000 in
theorem unsized_at {w : World} {ad : Addr} {T : List Tt} (cp : Nat) {a : Nat} (H : Tab w (some ad) T) (ha : a < T.length) : Calls Try.prog 102 #[.slice (some ad) T.length cp, .int .i64 a] w fun e w' => e = .returned (.bool (fmA T a == 8 || fmA T a == 6)) ∧ w' = w := by
  have j1 : (a : Int) < T.length := by omega
  obtain ⟨B, hB⟩ : ∃ B, ad.add (a * 10) = B := ⟨_, rfl⟩
  have c0 := form_cell H ha hB
  have bl := block_lt_of_cell c0
  obtain ⟨x, hx⟩ : ∃ x, fmA T (a : Int) = x := ⟨_, rfl⟩
  rw [hx] at c0 ⊢
  clear hx H
  by_cases h : x = 8
  · have h' : (x == 8) = true := by simpa using h
    clear h
    go_enter Try.func102, Try.ntmps102
    go_wp2
    go_ret
    simp [h']
  · have h' : (x == 8) = false := by simpa using h
    clear h
    go_enter Try.func102, Try.ntmps102
    go_wp2
    go_ret
    simp [h']
/- Places that lie in the table, and the table is good. -/
def SoO (w : World) (T : List Tt) (l : List Int) (e : Ending) (w' : World) : Prop := ∃ d, e = .returned (.bool d) ∧ w.grownBy w' none ∧ (d = true ↔ (∀ a ∈ l, inT T.length a = true) ∧ GoodP T)
set_option maxHeartbeats 4000000 in
theorem sound_at {w : World} {o so : Option Addr} {T : List Tt} {l : List Int} (cp sc : Nat) (H : Tab w o T) (hcp : T.length ≤ cp) (hs : Cls w so (l.map (Value.int .i64))) (hl : l.length ≤ 1000) : Calls Try.prog 55 #[.slice o T.length cp, .slice so l.length sc] w (SoO w T l) := by
  have hlen := H.1
  have HT := hide H
  have HS := hide hs
  have HG := hide (good_at (o := o) cp H hcp)
  have k0 : (l.length : Int) ≤ 1000 := by omega
  clear H hs
  go_enter Try.func55, Try.ntmps55
  go_wp2
  go_loop [9] (fun iv => ∃ k : Nat, k ≤ l.length ∧ iv = .int .i64 k ∧ Hid (∀ a ∈ l.take k, inT T.length a = true)) (fun iv => l.length - (intOf iv).toNat)
  case atStart => exact ⟨0, by omega, rfl, hide (by simp)⟩
  case round =>
    obtain ⟨k, hk, rfl, HA⟩ := hrel
    by_cases hlt : k < l.length
    · have r1 : (k : Int) < l.length := by omega
      obtain ⟨a, ha⟩ : ∃ a, l[k]? = some a := ⟨l[k], List.getElem?_eq_getElem hlt⟩
      obtain ⟨sa, rfl, hc⟩ := HS.out k (.int .i64 a) (by rw [List.getElem?_map, ha]; rfl)
      have bl := block_lt_of_cell hc
      have HX := hide ha
      clear ha
      cases hin : inT T.length a with
      | false =>
        have HI := hide hin
        clear hin
        go_wp2_with (go_at_call 84; refine (within_at _ _ _ _ _ (by omega)).mono ?_; rw [HI.out]; rintro e w' ⟨rfl, hw⟩; replace hw := hw.symm; subst hw)
        go_ret
        refine ⟨false, rfl, grown_refl w _, ⟨(fun e => by cases e), fun h => ?_⟩⟩
        have := h.1 a (List.mem_of_getElem? HX.out)
        rw [HI.out] at this
        exact this
      | true =>
        have HI := hide hin
        clear hin
        go_wp2_with (go_at_call 84; refine (within_at _ _ _ _ _ (by omega)).mono ?_; rw [HI.out]; rintro e w' ⟨rfl, hw⟩; replace hw := hw.symm; subst hw)
        refine ⟨⟨k + 1, by omega, by go_num, hide (fun b hb => ?_)⟩, by simp [intOf]; omega⟩
        rw [List.take_add_one, HX.out] at hb
        rcases List.mem_append.1 hb with hb | hb
        · exact HA.out b hb
        · simp at hb
          subst hb
          exact HI.out
    · obtain rfl : k = l.length := by omega
      rw [List.take_of_length_le (Nat.le_refl _)] at HA
      go_wp2_with (go_at_call 30; refine HG.out.mono ?_; rintro e w2 ⟨d, rfl, hg, hd⟩; have HD := hide hd; have HW := hide hg; clear hd hg)
      go_ret
      exact ⟨d, rfl, HW.out, HD.out.trans ⟨fun h => ⟨HA.out, h⟩, fun h => h.2⟩⟩
end Go.Proofs.Ythmldhppmpbadaa.Ty
