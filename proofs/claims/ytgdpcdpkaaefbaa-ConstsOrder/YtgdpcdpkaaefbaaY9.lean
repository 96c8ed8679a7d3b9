/-
  Constants, purely: what an operation of two tells, by the forms.
  The document's own constants (package spinetref12): Two, whole.
  The laws of layer 12: large.
  ConstsOne, walked.
  ConstsOrder, purely: where '<' tells, all six signs tell what an order of the two says; else it tells an error at once.
  ConstsOrder, walked where the two are large, and where '<' tells an error.
  ConstsOrder, walked where all six signs tell; and whole.
  Texts, constants, rows of constants and of pairs among the arguments: what is known of them.
-/
import Derived.Test.YtgdpcdpkaaefbaaY1
import Derived.Test.YtgdpcdpkaaefbaaY7
import Derived.Test.YtgdpcdpkaaefbaaY2
import Derived.Test.YtgdpcdpkaaefbaaY3
import Derived.Test.YtgdpcdpkaaefbaaY4
import Derived.Test.YtgdpcdpkaaefbaaY5
import Derived.Test.YtgdpcdpkaaefbaaY6
import Derived.Test.YtgdpcdpkaaefbaaCl1
import Derived.Test.YtgdpcdpkaaefbaaCn19
import Derived.ProofKit
import Derived.OpenShut
import Derived.ShutString
import Derived.ChangeOld
import Derived.ChangeMaps5
import Derived.Deep.Slices
import Derived.Below
namespace Go.Proofs.Ytgdpcdpkaaefbaa.Cn
open Go.RowKit hiding Hid
open Go.Maps Go.Proofs.Ytgdpcdpkaaefbaa.Tx Go.Proofs.Ytgdpcdpkaaefbaa.Lx Go.Proofs.Ytgdpcdpkaaefbaa.Mp Go.Proofs.Ytgdpcdpkaaefbaa.Bits Go.Proofs.Ytgdpcdpkaaefbaa.Tr Go.Proofs.Ytgdpcdpkaaefbaa.Bm
set_option linter.unusedVariables false
set_option linter.unusedSimpArgs false
set_option maxRecDepth 100000

theorem cmI_0 {n m : Int} : cmI n m = 0 ↔ n = m := by
  unfold cmI
  by_cases h1 : n < m
  · rw [if_pos h1]; omega
  · rw [if_neg h1]
    by_cases h2 : m < n
    · rw [if_pos h2]; omega
    · rw [if_neg h2]; omega
theorem cmp_0 {t u : List UInt8} : Lib.compareBytes t u = 0 ↔ t = u := by
  rcases cmp3 t u with ⟨h1, h2⟩ | ⟨h1, h3, h2⟩ | ⟨h1, h3, h2⟩
  · rw [h2]
    constructor
    · intro h; cases h
    · intro e
      subst e
      rcases cmp3 t t with ⟨_, h⟩ | ⟨_, h, _⟩ | ⟨_, _, h⟩
      · have : ∀ l : List UInt8, Lib.compareBytes l l = 0 := by
          intro l
          induction l with
          | nil => rfl
          | cons x l ih => simp [Lib.compareBytes, ih]
        rw [this] at h; cases h
      · simp at h
      · rw [h2] at h; cases h
  · rw [h2]
    constructor
    · intro h; cases h
    · intro e; subst e; simp at h3
  · rw [h2]
    exact ⟨fun _ => by simpa using h3, fun _ => rfl⟩
theorem ord_0 (x y : Vl) : ordI x y = 0 ↔ x.n = y.n ∧ x.t = y.t := by
  unfold ordI orI
  by_cases h : cmI x.n y.n = 0
  · rw [if_pos h, cmp_0]
    exact ⟨fun e => ⟨cmI_0.1 h, e⟩, fun e => e.2⟩
  · rw [if_neg h]
    exact ⟨fun e => absurd e h, fun e => absurd (cmI_0.2 e.1) h⟩
theorem eqB_ord {x y : Vl} (h : x.f = y.f) : eqB x y = (ordI x y == 0) := by
  rw [Bool.eq_iff_iff]
  simp only [eqB, Bool.and_eq_true, beq_iff_eq]
  rw [ord_0]
  exact ⟨fun e => e.2, fun e => ⟨h, e⟩⟩
/- A sign of a relation, and which one. -/
def isRel (s : List UInt8) : Bool := (s == [61]) || ((s == [35]) || ((s == [60]) || ((s == [60, 61]) || ((s == [62]) || (s == [62, 61])))))
theorem rel_yes {s : List UInt8} (h : isRel s = true) (o : Int) : (relP s o).2 = true := by
  unfold isRel at h
  unfold relP
  simp only [Bool.or_eq_true, beq_iff_eq] at h
  rcases h with rfl | rfl | rfl | rfl | rfl | rfl <;> rfl
theorem rel_no {s : List UInt8} (h : isRel s = false) (o : Int) : relP s o = (false, false) := by
  unfold isRel at h
  simp only [Bool.or_eq_false_iff, beq_eq_false_iff_ne] at h
  obtain ⟨h1, h2, h3, h4, h5, h6⟩ := h
  unfold relP
  rw [if_neg h1, if_neg h2, if_neg h3, if_neg h4, if_neg h5, if_neg h6]
def memB (f : Int) (s : List UInt8) (c : Cd) : Bool := decide (((f, f, s), c) ∈ twosE)
theorem six {f : Int} (h0 : 1 ≤ f) (h1 : f ≤ 6) : f = 1 ∨ f = 2 ∨ f = 3 ∨ f = 4 ∨ f = 5 ∨ f = 6 := by omega
theorem hit {f : Int} {s : List UInt8} {c : Cd} {x y : Vl} (hx : x.f = f) (hy : y.f = f) (h : memB f s c = true) : rk twosE s x y = ev c x y := rk_hit twos_nd (by rw [hx, hy]; exact of_decide_eq_true h)
theorem rel_pure {x y : Vl} {s : List UInt8} (hxy : x.f = y.f) (h0 : 1 ≤ y.f) (h1 : y.f ≤ 6) (hs : isRel s = true) (ha : s = [61] ∨ s = [35] ∨ y.f = 1 ∨ y.f = 3 ∨ y.f = 6) : rk twosE s x y = bolR (relP s (ordI x y)).1 := by
  have hs' := hs
  unfold isRel at hs
  simp only [Bool.or_eq_true, beq_iff_eq] at hs
  rcases hs with rfl | rfl | rfl | rfl | rfl | rfl
  · rw [show (relP [61] (ordI x y)).1 = (ordI x y == 0) from rfl, ← eqB_ord hxy]
    rcases six h0 h1 with e | e | e | e | e | e <;> exact hit (c := .eq) (hxy.trans e) e (by kernel_rfl)
  · rw [show (relP [35] (ordI x y)).1 = !(ordI x y == 0) from rfl, ← eqB_ord hxy]
    rcases six h0 h1 with e | e | e | e | e | e <;> exact hit (c := .ne) (hxy.trans e) e (by kernel_rfl)
  · have hb : y.f = 1 ∨ y.f = 3 ∨ y.f = 6 := by simpa using ha
    rcases hb with e | e | e <;> exact hit (c := .lt) (hxy.trans e) e (by kernel_rfl)
  · have hb : y.f = 1 ∨ y.f = 3 ∨ y.f = 6 := by simpa using ha
    rcases hb with e | e | e <;> exact hit (c := .le) (hxy.trans e) e (by kernel_rfl)
  · have hb : y.f = 1 ∨ y.f = 3 ∨ y.f = 6 := by simpa using ha
    rcases hb with e | e | e <;> exact hit (c := .gt) (hxy.trans e) e (by kernel_rfl)
  · have hb : y.f = 1 ∨ y.f = 3 ∨ y.f = 6 := by simpa using ha
    rcases hb with e | e | e <;> exact hit (c := .ge) (hxy.trans e) e (by kernel_rfl)
theorem no_of {f g : Int} {L : List (List UInt8 × Cd)} (hL : sub twosE f g = L) {x y : Vl} (hx : x.f = f) (hy : y.f = g) {s : List UInt8} (h : L.all (fun p => p.1 != s) = true) : rk twosE s x y = noR := rk_no (by
  rw [hx, hy, hL]
  intro p hp
  have := List.all_eq_true.1 h p hp
  simpa using this)
theorem isRel_f {s : List UInt8} (h : isRel s = false) : ([61] != s) = true ∧ ([35] != s) = true ∧ ([60] != s) = true ∧ ([60, 61] != s) = true ∧ ([62] != s) = true ∧ ([62, 61] != s) = true := by
  unfold isRel at h
  simp only [Bool.or_eq_false_iff, beq_eq_false_iff_ne] at h
  obtain ⟨h1, h2, h3, h4, h5, h6⟩ := h
  simp [Ne.symm h1, Ne.symm h2, Ne.symm h3, Ne.symm h4, Ne.symm h5, Ne.symm h6]
theorem ints_pure {x y : Vl} {s : List UInt8} (hx : x.f = 1) (hy : y.f = 1) (hs : isRel s = false) : rk twosE s x y = intsP s x.n y.n := by
  obtain ⟨r1, r2, r3, r4, r5, r6⟩ := isRel_f hs
  unfold intsP
  by_cases h1 : s = [43]
  · rw [if_pos h1]; subst h1; exact hit (c := .add) hx hy (by kernel_rfl)
  rw [if_neg h1]
  by_cases h2 : s = [45]
  · rw [if_pos h2]; subst h2; exact hit (c := .sub) hx hy (by kernel_rfl)
  rw [if_neg h2]
  by_cases h3 : s = [42]
  · rw [if_pos h3]; subst h3; exact hit (c := .mul) hx hy (by kernel_rfl)
  rw [if_neg h3]
  by_cases h4 : s = [68, 73, 86]
  · rw [if_pos h4]; subst h4; exact hit (c := .quo) hx hy (by kernel_rfl)
  rw [if_neg h4]
  by_cases h5 : s = [77, 79, 68]
  · rw [if_pos h5]; subst h5; exact hit (c := .rem) hx hy (by kernel_rfl)
  rw [if_neg h5]
  refine no_of (L := [([43], .add), ([45], .sub), ([42], .mul), ([68, 73, 86], .quo), ([77, 79, 68], .rem), ([61], .eq), ([35], .ne), ([60], .lt), ([60, 61], .le), ([62], .gt), ([62, 61], .ge)]) (by kernel_rfl) hx hy ?_
  simp only [List.all_cons, List.all_nil, Bool.and_true, r1, r2, r3, r4, r5, r6]
  simp [Ne.symm h1, Ne.symm h2, Ne.symm h3, Ne.symm h4, Ne.symm h5]
theorem sets_pure {x y : Vl} {s : List UInt8} (hx : x.f = 4) (hy : y.f = 4) : ((sopP s (x.n % 4294967296) (y.n % 4294967296)).2 = true → rk twosE s x y = setR (sopP s (x.n % 4294967296) (y.n % 4294967296)).1 ∧ isRel s = false ∧ ¬ s = [73, 78]) ∧ ((sopP s (x.n % 4294967296) (y.n % 4294967296)).2 = false → ¬ s = [61] → ¬ s = [35] → rk twosE s x y = noR) := by
  unfold sopP
  by_cases h1 : s = [43]
  · rw [if_pos h1]; subst h1; exact ⟨fun _ => ⟨hit (c := .sor) hx hy (by kernel_rfl), rfl, by decide⟩, fun h => by cases h⟩
  rw [if_neg h1]
  by_cases h2 : s = [45]
  · rw [if_pos h2]; subst h2; exact ⟨fun _ => ⟨hit (c := .sdf) hx hy (by kernel_rfl), rfl, by decide⟩, fun h => by cases h⟩
  rw [if_neg h2]
  by_cases h3 : s = [42]
  · rw [if_pos h3]; subst h3; exact ⟨fun _ => ⟨hit (c := .san) hx hy (by kernel_rfl), rfl, by decide⟩, fun h => by cases h⟩
  rw [if_neg h3]
  by_cases h4 : s = [47]
  · rw [if_pos h4]; subst h4; exact ⟨fun _ => ⟨hit (c := .sxo) hx hy (by kernel_rfl), rfl, by decide⟩, fun h => by cases h⟩
  rw [if_neg h4]
  refine ⟨fun h => (by cases h), fun _ h5 h6 => no_of (L := [([43], .sor), ([45], .sdf), ([42], .san), ([47], .sxo), ([61], .eq), ([35], .ne)]) (by kernel_rfl) hx hy ?_⟩
  simp [Ne.symm h1, Ne.symm h2, Ne.symm h3, Ne.symm h4, Ne.symm h5, Ne.symm h6]
theorem none2 {x y : Vl} {s : List UInt8} (hx : x.f = 2) (hy : y.f = 2) (h1 : ¬ s = [38]) (h2 : ¬ s = [79, 82]) (h3 : ¬ s = [61]) (h4 : ¬ s = [35]) : rk twosE s x y = noR := by
  refine no_of (L := [([38], .and), ([79, 82], .or), ([61], .eq), ([35], .ne)]) (by kernel_rfl) hx hy ?_
  simp [Ne.symm h1, Ne.symm h2, Ne.symm h3, Ne.symm h4]
theorem none5 {x y : Vl} {s : List UInt8} (hx : x.f = 5) (hy : y.f = 5) (h3 : ¬ s = [61]) (h4 : ¬ s = [35]) : rk twosE s x y = noR := by
  refine no_of (L := [([61], .eq), ([35], .ne)]) (by kernel_rfl) hx hy ?_
  simp [Ne.symm h3, Ne.symm h4]
theorem none36 {x y : Vl} {s : List UInt8} {f : Int} (hf : f = 3 ∨ f = 6) (hx : x.f = f) (hy : y.f = f) (hs : isRel s = false) : rk twosE s x y = noR := by
  obtain ⟨r1, r2, r3, r4, r5, r6⟩ := isRel_f hs
  rcases hf with rfl | rfl
  · refine no_of (L := [([61], .eq), ([35], .ne), ([60], .lt), ([60, 61], .le), ([62], .gt), ([62, 61], .ge)]) (by kernel_rfl) hx hy ?_
    simp only [List.all_cons, List.all_nil, Bool.and_true, r1, r2, r3, r4, r5, r6]
  · refine no_of (L := [([61], .eq), ([35], .ne), ([60], .lt), ([60, 61], .le), ([62], .gt), ([62, 61], .ge)]) (by kernel_rfl) hx hy ?_
    simp only [List.all_cons, List.all_nil, Bool.and_true, r1, r2, r3, r4, r5, r6]
def unB (p : Ky × Cd) : Bool := (p.1.1 == p.1.2.1) || ((p.1.1 == 1) && ((p.1.2.1 == 4) && (p.1.2.2 == [73, 78])))
theorem un_all : twosE.all unB = true := by kernel_rfl
theorem none_un {x y : Vl} {s : List UInt8} (hne : ¬ x.f = y.f) (hin : ¬ (x.f = 1 ∧ y.f = 4 ∧ s = [73, 78])) : rk twosE s x y = noR := rk_miss (fun p hp e => by
  have := List.all_eq_true.1 un_all p hp
  unfold unB at this
  rw [e] at this
  simp only [Bool.or_eq_true, Bool.and_eq_true, beq_iff_eq] at this
  rcases this with h | h
  · exact hne h
  · exact hin h)
theorem in_hit {x y : Vl} (hx : x.f = 1) (hy : y.f = 4) : rk twosE [73, 78] x y = memR x y := rk_hit twos_nd (c := .isin) (by rw [hx, hy]; exact of_decide_eq_true (by kernel_rfl))
theorem emB (b : Bool) : b = false ∨ b = true := by cases b <;> simp
theorem tr_truth {B : Bool} {rf rn re : Int} {rt : List UInt8} (h : bolR B = (⟨rf, rn, rt⟩, re)) : Tr3 29 #[.bool B] rf rn rt re := rtruth_as h
theorem parts (R : Rs) : ∃ rf rn rt re, R = (⟨rf, rn, rt⟩, re) := ⟨R.1.f, R.1.n, R.1.t, R.2, rfl⟩
theorem mk_form {v : Vl} {f : Int} (hf : v.f = f) (ht : v.t = []) : v = ⟨f, v.n, []⟩ := by cases v; simp_all
theorem drewN_g (w : World) (d : Nat) : w.grownBy (w.drewN d) none := ⟨rfl, rfl, rfl, Nat.le_refl _, fun _ _ _ => rfl⟩
theorem chV_n {v : Vl} (h : ¬ v.f = 6) : chV v = v := if_neg (fun e => h e.1)
end Go.Proofs.Ytgdpcdpkaaefbaa.Cn
namespace Go.Proofs.Ytgdpcdpkaaefbaa.Cn
open Go.RowKit hiding Hid
open Go.Maps Go.Proofs.Ytgdpcdpkaaefbaa.Tx Go.Proofs.Ytgdpcdpkaaefbaa.Lx Go.Proofs.Ytgdpcdpkaaefbaa.Mp Go.Proofs.Ytgdpcdpkaaefbaa.Bits Go.Proofs.Ytgdpcdpkaaefbaa.Tr Go.Proofs.Ytgdpcdpkaaefbaa.Bm
set_option linter.unusedVariables false
set_option linter.unusedSimpArgs false
set_option maxRecDepth 100000

theorem orI_z (c : Int) : orI c 0 = c := by unfold orI; split <;> omega
theorem ord_n {x y : Vl} (hx : x.t = []) (hy : y.t = []) : ordI x y = cmI x.n y.n := by
  unfold ordI
  rw [hx, hy]
  exact orI_z _
theorem rl_of (s : List UInt8) (o : Int) : Rl s o (relP s o).1 (relP s o).2 := fun W => relate_at s o W
theorem rl_yes {s : List UInt8} (h : isRel s = true) (o : Int) : Rl s o (relP s o).1 true := by have := rl_of s o; rw [rel_yes h o] at this; exact this
theorem rl_no {s : List UInt8} (h : isRel s = false) (o : Int) : Rl s o false false := by have := rl_of s o; rw [rel_no h o] at this; exact this
theorem od_of (t u : List UInt8) : Od t u (Lib.compareBytes t u) := fun W => rorder_at t u W
theorem rel_in {s : List UInt8} (h : isRel s = true) : ((bs s).toList == [73, 78]) = false := tE_ff (fun e => by subst e; revert h; decide)
theorem e12 (s : List UInt8) : ((bs s).toList == [61]) = true ∨ (((bs s).toList == [61]) = false ∧ ((bs s).toList == [35]) = true) ∨ (((bs s).toList == [61]) = false ∧ ((bs s).toList == [35]) = false) := by
  cases ((bs s).toList == [61]) <;> cases ((bs s).toList == [35]) <;> simp
theorem e12' {s : List UInt8} (h : s = [61] ∨ s = [35]) : ((bs s).toList == [61]) = true ∨ (((bs s).toList == [61]) = false ∧ ((bs s).toList == [35]) = true) := by
  rcases h with rfl | rfl
  · exact .inl (tE_tt rfl)
  · exact .inr ⟨tE_ff (by decide), tE_tt rfl⟩
theorem h3_of {s : List UInt8} (h1 : ¬ s = [61]) (h2 : ¬ s = [35]) (o : Int) : ((relP s o).2 = false ∧ ((bs s).toList == [73, 78]) = false) ∨ ((relP s o).2 = false ∧ ((bs s).toList == [73, 78]) = true) ∨ ((relP s o).2 = true ∧ ((bs s).toList == [73, 78]) = false ∧ ((bs s).toList == [61]) = false ∧ ((bs s).toList == [35]) = false) := by
  cases hr : isRel s with
  | true => exact .inr (.inr ⟨rel_yes hr o, rel_in hr, tE_ff h1, tE_ff h2⟩)
  | false =>
    rw [rel_no hr o]
    rcases emB ((bs s).toList == [73, 78]) with h | h
    · exact .inl ⟨rfl, h⟩
    · exact .inr (.inl ⟨rfl, h⟩)
theorem good_n0 {v : Vl} (h : goodV v = true) (hf : v.f = 5 ∨ v.f = 6) : v.n = 0 := by
  rcases hf with hf | hf
  · rw [goodV_n (by omega), hf, goodN_5] at h
    simp only [Bool.and_eq_true, beq_iff_eq] at h
    exact h.2
  · rw [goodV_6 hf] at h
    simp only [Bool.and_eq_true, beq_iff_eq] at h
    exact h.1
theorem rtwo_A (s : List UInt8) (a b : Vl) (hb : b.t.length ≤ 9223372036854775807) (hga : goodV a = true) (hgb : goodV b = true) (h3 : a.f = 3) (w : World) : Calls Try.prog 18 #[.string (bs s), vV a, vV b] w (Told w (rsV (rk twosE s a (chV b)))) := by
  obtain ⟨y, hy⟩ : ∃ y, chV b = y := ⟨_, rfl⟩
  have HX := rchar_as hb hy
  have gy : goodV y = true := by rw [← hy, ← show besV b a = chV b by rw [← bes_y, if_pos h3]]; exact good_bes hgb a
  have HB := rgood_as hb hgb
  rw [hy]
  have e := mk_form h3 (good_t hga (by omega))
  generalize a.n = n at e
  subst e
  have HA := rgood_as (v := ⟨3, n, []⟩) (by simp) hga
  by_cases y3 : y.f = 3
  · have e := mk_form y3 (good_t gy (by omega))
    generalize y.n = m1 at e
    subst e
    have ho : ordI ⟨3, n, []⟩ ⟨3, m1, []⟩ = cmI n m1 := ord_n rfl rfl
    cases hr : isRel s with
    | true =>
      rw [rel_pure (x := ⟨3, n, []⟩) (y := ⟨3, m1, []⟩) rfl (by dsimp only; decide) (by dsimp only; decide) hr (.inr (.inr (.inr (.inl rfl)))), ho]
      obtain ⟨rf, rn, rt, re, hR⟩ := parts (bolR (relP s (cmI n m1)).1)
      rw [hR]
      exact rltA HA HB HX (rchar_as (a := ⟨3, n, []⟩) (by simp) (chV_n (by dsimp only; decide))) (od_of [] []) (nc_of n m1) (rl_yes hr _) (tr_truth hR) (rel_in hr) (e12 s)
    | false =>
      rw [none36 (f := 3) (.inl rfl) rfl rfl hr]
      exact behA HA HB HX (rchar_as (a := ⟨3, n, []⟩) (by simp) (chV_n (by dsimp only; decide))) (od_of [] []) (nc_of n m1) (rl_no hr _) (emB _)
  · rw [none_un (x := ⟨3, n, []⟩) (fun e => y3 e.symm) (fun e => absurd e.1 (by dsimp only; decide))]
    exact cunl HA HB HX (by simpa using y3) (by simp; exact fun e => y3 e.symm) (emB _)
theorem rtwo_B (s : List UInt8) (a b : Vl) (ha : a.t.length ≤ 9223372036854775807) (hga : goodV a = true) (hgb : goodV b = true) (h3 : ¬ a.f = 3) (hb3 : b.f = 3) (w : World) : Calls Try.prog 18 #[.string (bs s), vV a, vV b] w (Told w (rsV (rk twosE s (chV a) b))) := by
  obtain ⟨x, hx⟩ : ∃ y, chV a = y := ⟨_, rfl⟩
  have HX := rchar_as ha hx
  have gx : goodV x = true := by
    rw [← hx]
    have hne : besV b a = b := by unfold besV; rw [if_neg (by omega)]
    rw [show chV a = besV a b by rw [← bes_x, hne, if_pos hb3]]
    exact good_bes hga b
  have HA := rgood_as ha hga
  rw [hx]
  have e := mk_form hb3 (good_t hgb (by omega))
  generalize b.n = m at e
  subst e
  have HB := rgood_as (v := ⟨3, m, []⟩) (by simp) hgb
  have hf : (a.f == 3) = false := by simpa using h3
  by_cases x3 : x.f = 3
  · have e := mk_form x3 (good_t gx (by omega))
    generalize x.n = n1 at e
    subst e
    have ho : ordI ⟨3, n1, []⟩ ⟨3, m, []⟩ = cmI n1 m := ord_n rfl rfl
    cases hr : isRel s with
    | true =>
      rw [rel_pure (x := ⟨3, n1, []⟩) (y := ⟨3, m, []⟩) rfl (by dsimp only; decide) (by dsimp only; decide) hr (.inr (.inr (.inr (.inl rfl)))), ho]
      obtain ⟨rf, rn, rt, re, hR⟩ := parts (bolR (relP s (cmI n1 m)).1)
      rw [hR]
      exact rltB HA HB hf HX (od_of [] []) (nc_of n1 m) (rl_yes hr _) (tr_truth hR) (rel_in hr) (e12 s)
    | false =>
      rw [none36 (f := 3) (.inl rfl) rfl rfl hr]
      exact behB HA HB hf HX (od_of [] []) (nc_of n1 m) (rl_no hr _) (emB _)
  · rw [none_un (y := ⟨3, m, []⟩) x3 (fun e => absurd e.2.1 (by dsimp only; decide))]
    refine unlc HA HB hf HX (by simp; exact x3) ?_
    rcases emB ((bs s).toList == [73, 78]) with h | h
    · exact .inl h
    · rcases emB (x.f == 1) with h' | h'
      · exact .inr (.inl ⟨h, h'⟩)
      · exact .inr (.inr ⟨h, h'⟩)
theorem rtwo_C (s : List UInt8) (a b : Vl) (ha : a.t.length ≤ 9223372036854775807) (hb : b.t.length ≤ 9223372036854775807) (hga : goodV a = true) (hgb : goodV b = true) (h3 : ¬ a.f = 3) (hb3 : ¬ b.f = 3) (w : World) : Calls Try.prog 18 #[.string (bs s), vV a, vV b] w (Told w (rsV (rk twosE s a b))) := by
  have HA := rgood_as ha hga
  have HB := rgood_as hb hgb
  have ra := good_rg hga
  have rb := good_rg hgb
  by_cases hfg : a.f = b.f
  · have c5 : b.f = 1 ∨ b.f = 2 ∨ b.f = 4 ∨ b.f = 5 ∨ b.f = 6 := by omega
    rcases c5 with e | e | e | e | e
    · have e1 := mk_form (hfg.trans e) (good_t hga (by omega))
      have e2 := mk_form e (good_t hgb (by omega))
      generalize a.n = n at *
      generalize b.n = m at *
      subst e1
      subst e2
      have ho : ordI ⟨1, n, []⟩ ⟨1, m, []⟩ = cmI n m := ord_n rfl rfl
      cases hr : isRel s with
      | true =>
        rw [rel_pure (x := ⟨1, n, []⟩) (y := ⟨1, m, []⟩) rfl (by dsimp only; decide) (by dsimp only; decide) hr (.inr (.inr (.inl rfl))), ho]
        obtain ⟨rf, rn, rt, re, hR⟩ := parts (bolR (relP s (cmI n m)).1)
        rw [hR]
        exact rlt1 HA HB (od_of [] []) (nc_of n m) (rl_yes hr _) (tr_truth hR) (rel_in hr) (e12 s)
      | false =>
        rw [ints_pure (x := ⟨1, n, []⟩) (y := ⟨1, m, []⟩) rfl rfl hr]
        obtain ⟨rf, rn, rt, re, hR⟩ := parts (intsP s n m)
        rw [hR]
        refine beh1 HA HB (od_of [] []) (nc_of n m) (rl_no hr _) (emB _) (fun W => ?_)
        have := ints_at s n m (ra.2.2.1 rfl).1 (ra.2.2.1 rfl).2 (rb.2.2.1 rfl).1 (rb.2.2.1 rfl).2 W
        rw [hR] at this
        exact this
    · have e1 := mk_form (hfg.trans e) (good_t hga (by omega))
      have e2 := mk_form e (good_t hgb (by omega))
      generalize a.n = n at *
      generalize b.n = m at *
      subst e1
      subst e2
      have ho : ordI ⟨2, n, []⟩ ⟨2, m, []⟩ = cmI n m := ord_n rfl rfl
      by_cases hs : s = [61] ∨ s = [35]
      · have hr : isRel s = true := by rcases hs with rfl | rfl <;> rfl
        rw [rel_pure (x := ⟨2, n, []⟩) (y := ⟨2, m, []⟩) rfl (by dsimp only; decide) (by dsimp only; decide) hr (by rcases hs with h | h; exact .inl h; exact .inr (.inl h)), ho]
        obtain ⟨rf, rn, rt, re, hR⟩ := parts (bolR (relP s (cmI n m)).1)
        rw [hR]
        exact rlt2 HA HB (od_of [] []) (nc_of n m) (rl_yes hr _) (tr_truth hR) (rel_in hr) (e12' hs)
      have s1 : ¬ s = [61] := fun h => hs (.inl h)
      have s2 : ¬ s = [35] := fun h => hs (.inr h)
      by_cases h38 : s = [38]
      · subst h38
        rw [hit (c := .and) (x := ⟨2, n, []⟩) (y := ⟨2, m, []⟩) rfl rfl (by kernel_rfl)]
        obtain ⟨rf, rn, rt, re, hR⟩ := parts (bolR ((n == 1) && (m == 1)))
        rw [show ev .and ⟨2, n, []⟩ ⟨2, m, []⟩ = (⟨rf, rn, rt⟩, re) from hR]
        exact and2 HA HB (od_of [] []) (nc_of n m) (rl_no rfl _) (tE_ff (by decide)) (tE_tt rfl) rfl rfl (tr_truth hR)
      by_cases hor : s = [79, 82]
      · subst hor
        rw [hit (c := .or) (x := ⟨2, n, []⟩) (y := ⟨2, m, []⟩) rfl rfl (by kernel_rfl)]
        obtain ⟨rf, rn, rt, re, hR⟩ := parts (bolR ((n == 1) || (m == 1)))
        rw [show ev .or ⟨2, n, []⟩ ⟨2, m, []⟩ = (⟨rf, rn, rt⟩, re) from hR]
        exact or2 HA HB (od_of [] []) (nc_of n m) (rl_no rfl _) (tE_ff (by decide)) (tE_ff (by decide)) (tE_tt rfl) rfl rfl (tr_truth hR)
      rw [none2 (x := ⟨2, n, []⟩) (y := ⟨2, m, []⟩) rfl rfl h38 hor s1 s2]
      exact non2 HA HB (od_of [] []) (nc_of n m) (rl_of s _) (h3_of s1 s2 _) (tE_ff h38) (tE_ff hor)
    · have e1 := mk_form (hfg.trans e) (good_t hga (by omega))
      have e2 := mk_form e (good_t hgb (by omega))
      generalize a.n = n at *
      generalize b.n = m at *
      subst e1
      subst e2
      have ho : ordI ⟨4, n, []⟩ ⟨4, m, []⟩ = cmI n m := ord_n rfl rfl
      by_cases hs : s = [61] ∨ s = [35]
      · have hr : isRel s = true := by rcases hs with rfl | rfl <;> rfl
        rw [rel_pure (x := ⟨4, n, []⟩) (y := ⟨4, m, []⟩) rfl (by dsimp only; decide) (by dsimp only; decide) hr (by rcases hs with h | h; exact .inl h; exact .inr (.inl h)), ho]
        obtain ⟨rf, rn, rt, re, hR⟩ := parts (bolR (relP s (cmI n m)).1)
        rw [hR]
        exact rlt4 HA HB (od_of [] []) (nc_of n m) (rl_yes hr _) (tr_truth hR) (rel_in hr) (e12' hs)
      have s1 : ¬ s = [61] := fun h => hs (.inl h)
      have s2 : ¬ s = [35] := fun h => hs (.inr h)
      have hp := sets_pure (s := s) (x := ⟨4, n, []⟩) (y := ⟨4, m, []⟩) rfl rfl
      have hso := fun W => setop_at s (n % 4294967296) (m % 4294967296) W
      dsimp only at hp
      cases hd : (sopP s (n % 4294967296) (m % 4294967296)).2 with
      | true =>
        obtain ⟨q1, q2, q3⟩ := hp.1 hd
        have hrg : 0 ≤ (sopP s (n % 4294967296) (m % 4294967296)).1 ∧ (sopP s (n % 4294967296) (m % 4294967296)).1 < 4294967296 := by
          unfold sopP
          split
          · exact bits_or _ _
          split
          · exact bits_an _ _
          split
          · exact bits_and _ _
          split
          · exact bits_xor _ _
          · exact ⟨by decide, by decide⟩
        rw [q1]
        obtain ⟨rf, rn, rt, re, hR⟩ := parts (setR (sopP s (n % 4294967296) (m % 4294967296)).1)
        rw [hR]
        rw [hd] at hso
        exact beh4 HA HB (od_of [] []) (nc_of n m) (rl_no q2 _) (tE_ff q3) hso (rset_as hrg.1 hrg.2 hR)
      | false =>
        rw [hp.2 hd s1 s2]
        rw [hd] at hso
        exact non4 HA HB (od_of [] []) (nc_of n m) (rl_of s _) (h3_of s1 s2 _) hso
    · have e1 := mk_form (hfg.trans e) (good_t hga (by omega))
      have e2 := mk_form e (good_t hgb (by omega))
      have z1 := good_n0 hga (.inl (hfg.trans e))
      have z2 := good_n0 hgb (.inl e)
      rw [z1] at e1
      rw [z2] at e2
      subst e1
      subst e2
      by_cases hs : s = [61] ∨ s = [35]
      · have hr : isRel s = true := by rcases hs with rfl | rfl <;> rfl
        rw [rel_pure (x := ⟨5, 0, []⟩) (y := ⟨5, 0, []⟩) rfl (by dsimp only; decide) (by dsimp only; decide) hr (by rcases hs with h | h; exact .inl h; exact .inr (.inl h))]
        obtain ⟨rf, rn, rt, re, hR⟩ := parts (bolR (relP s (ordI ⟨5, 0, []⟩ ⟨5, 0, []⟩)).1)
        rw [hR]
        exact rlt5 HA HB (od_of [] []) (rl_yes hr _) (tr_truth hR) (rel_in hr) (e12' hs)
      have s1 : ¬ s = [61] := fun h => hs (.inl h)
      have s2 : ¬ s = [35] := fun h => hs (.inr h)
      rw [none5 (x := ⟨5, 0, []⟩) (y := ⟨5, 0, []⟩) rfl rfl s1 s2]
      exact beh5 HA HB (od_of [] []) (rl_of s _) (h3_of s1 s2 _)
    · have z1 := good_n0 hga (.inr (hfg.trans e))
      have z2 := good_n0 hgb (.inr e)
      obtain ⟨af, an, at_⟩ := a
      obtain ⟨bf, bn, bt⟩ := b
      dsimp only at *
      subst hfg
      subst e
      subst z1
      subst z2
      have ho : ordI ⟨6, 0, at_⟩ ⟨6, 0, bt⟩ = Lib.compareBytes at_ bt := rfl
      cases hr : isRel s with
      | true =>
        rw [rel_pure (x := ⟨6, 0, at_⟩) (y := ⟨6, 0, bt⟩) rfl (by dsimp only; decide) (by dsimp only; decide) hr (.inr (.inr (.inr (.inr rfl)))), ho]
        obtain ⟨rf, rn, rt, re, hR⟩ := parts (bolR (relP s (Lib.compareBytes at_ bt)).1)
        rw [hR]
        exact rlt6 HA HB (od_of _ _) (rl_yes hr _) (tr_truth hR) (rel_in hr) (e12 s)
      | false =>
        rw [none36 (f := 6) (.inr rfl) rfl rfl hr]
        exact beh6 HA HB (od_of _ _) (rl_no hr _) (emB _)
  · by_cases hin : a.f = 1 ∧ b.f = 4 ∧ s = [73, 78]
    · obtain ⟨i1, i2, rfl⟩ := hin
      have e1 := mk_form i1 (good_t hga (by omega))
      have e2 := mk_form i2 (good_t hgb (by omega))
      generalize a.n = n at *
      generalize b.n = m at *
      subst e1
      subst e2
      rw [in_hit (x := ⟨1, n, []⟩) (y := ⟨4, m, []⟩) rfl rfl]
      have kin : ((bs [73, 78]).toList == [73, 78]) = true := tE_tt rfl
      by_cases n0 : n < 0
      · rw [show memR ⟨1, n, []⟩ ⟨4, m, []⟩ = (Vl.z, 91) from if_neg (by simp [wiB]; omega)]
        exact in_no HA HB kin (.inl n0)
      by_cases n1 : 31 < n
      · rw [show memR ⟨1, n, []⟩ ⟨4, m, []⟩ = (Vl.z, 91) from if_neg (by simp [wiB]; omega)]
        exact in_no HA HB kin (.inr ⟨n0, n1⟩)
      · rw [show memR ⟨1, n, []⟩ ⟨4, m, []⟩ = bolR (getI (m % 4294967296) n 1 == 1) from if_pos (by simp [wiB]; omega)]
        obtain ⟨rf, rn, rt, re, hR⟩ := parts (bolR (getI (m % 4294967296) n 1 == 1))
        rw [hR]
        exact in_yes HA HB kin n0 n1 rfl (fun W => (rget_any _ _ _ W (m0 _) (m1 _) (by omega)).mono (fun e w' h => ⟨h.1, by obtain ⟨d, hd⟩ := h.2; rw [hd]; exact drewN_g _ _⟩)) (tr_truth hR)
    · rw [none_un hfg hin]
      refine unl HA HB (by simpa using h3) (by simpa using hb3) (by simpa using hfg) ?_
      rcases emB ((bs s).toList == [73, 78]) with h | h
      · exact .inl h
      · rcases emB (a.f == 1) with h' | h'
        · exact .inr (.inl ⟨h, h'⟩)
        · rcases emB (b.f == 4) with h'' | h''
          · exact .inr (.inr ⟨h, h', h''⟩)
          · exact absurd ⟨by simpa using h', by simpa using h'', tE_t h⟩ hin
theorem rtwo_at (s : List UInt8) (a b : Vl) (ha : a.t.length ≤ 9223372036854775807) (hb : b.t.length ≤ 9223372036854775807) (w : World) : Calls Try.prog 18 #[.string (bs s), vV a, vV b] w (Told w (rsV (twoP s a b))) := by
  cases hga : goodV a with
  | false =>
    rw [show twoP s a b = noR from if_neg (by simp [hga])]
    exact bad1 (rgood_as ha hga)
  | true =>
    cases hgb : goodV b with
    | false =>
      rw [show twoP s a b = noR from if_neg (by simp [hgb])]
      exact bad2 (rgood_as ha hga) (rgood_as hb hgb)
    | true =>
      rw [show twoP s a b = rk twosE s (besV a b) (besV b a) from if_pos ⟨hga, hgb⟩]
      by_cases h3 : a.f = 3
      · rw [show besV a b = a by unfold besV; rw [if_neg (by omega)], ← bes_y, if_pos h3]
        exact rtwo_A s a b hb hga hgb h3 w
      · have hy : besV b a = b := by unfold besV; rw [if_neg (by omega)]
        by_cases hb3 : b.f = 3
        · rw [← bes_x, hy, if_pos hb3]
          exact rtwo_B s a b ha hga hgb h3 hb3 w
        · rw [← bes_x, hy, if_neg hb3]
          exact rtwo_C s a b ha hb hga hgb h3 hb3 w
end Go.Proofs.Ytgdpcdpkaaefbaa.Cn
namespace Go.Proofs.Ytgdpcdpkaaefbaa.Cn
open Go.RowKit hiding Hid
open Go.Maps Go.Proofs.Ytgdpcdpkaaefbaa.Tx Go.Proofs.Ytgdpcdpkaaefbaa.Lx Go.Proofs.Ytgdpcdpkaaefbaa.Mp Go.Proofs.Ytgdpcdpkaaefbaa.Bits Go.Proofs.Ytgdpcdpkaaefbaa.Tr Go.Proofs.Ytgdpcdpkaaefbaa.Bm
set_option linter.unusedVariables false
set_option linter.unusedSimpArgs false
set_option maxRecDepth 100000

def bigV (v : Vl) : Bool := decide (5000 < v.t.length)
theorem any_on {l : List Vl} {i : Nat} {x : Vl} (hx : l[i]? = some x) (h : (l.take i).any bigV = false) (hb : bigV x = false) : (l.take (i + 1)).any bigV = false := by
  obtain ⟨hi, rfl⟩ := List.getElem?_eq_some_iff.1 hx
  rw [List.take_succ_eq_append_getElem hi, List.any_append, h]
  simp [hb]
theorem any_hit {l : List Vl} {i : Nat} {x : Vl} (hx : l[i]? = some x) (hb : bigV x = true) : l.any bigV = true := by
  obtain ⟨hi, rfl⟩ := List.getElem?_eq_some_iff.1 hx
  exact List.any_eq_true.2 ⟨_, List.getElem_mem hi, hb⟩
theorem big_no {l : List Vl} (h : l.any bigV = false) : ∀ v ∈ l, v.t.length ≤ 5000 := fun v hv => by
  rcases Nat.lt_or_ge 5000 v.t.length with h' | h'
  · rw [List.any_eq_true.2 ⟨v, hv, by simp [bigV, h']⟩] at h; cases h
  · exact h'
set_option maxHeartbeats 2000000 in
theorem large_at {w : World} {o : Option Addr} {cp : Nat} {l : List Vl} (hl : l.length ≤ 9223372036854775807) (ht : ∀ v ∈ l, v.t.length ≤ 9223372036854775807) (h1 : Cls w o (l.flatMap vC)) :
    Calls Try.prog 10 #[.slice o l.length cp] w fun e w' => e = .returned (.bool (l.any bigV)) ∧ w' = w := by
  have H1 := hide h1
  have HT := hide ht
  have hl' : (l.length : Int) ≤ 9223372036854775807 := by omega
  clear h1 ht hl
  go_enter Try.func10, Try.ntmps10
  go_wp2
  go_loop [3] (fun iv => ∃ i : Nat, i ≤ l.length ∧ iv = .int .i64 i ∧ Hid ((l.take i).any bigV = false)) (fun iv => l.length - (intOf iv).toNat)
  case atStart => exact ⟨0, Nat.zero_le _, rfl, hide (by simp)⟩
  case round =>
    obtain ⟨i, hi, rfl, HA⟩ := hrel
    by_cases hlt : i < l.length
    · have j1 : (i : Int) < l.length := by omega
      have j2 : (i : Int) + 1 ≤ 9223372036854775807 := by omega
      obtain ⟨x, hx⟩ : ∃ x, l[i]? = some x := ⟨l[i], List.getElem?_eq_getElem hlt⟩
      obtain ⟨ad, rfl, hel⟩ := H1.out.el vC_len (by decide) hx
      obtain ⟨P, hP⟩ : ∃ P, ad.add (i * 3) = P := ⟨_, rfl⟩
      rw [hP] at hel
      have x2 := hel 2 (.string (bs x.t)) rfl
      rw [Addr.add_succ'] at x2
      have hxl := HT.out x (List.mem_of_getElem? hx)
      have HX := hide hx
      have hsz := bs_size x.t
      have hxl' : (x.t.length : Int) ≤ 9223372036854775807 := by omega
      clear hel hx hxl
      by_cases hb : 5000 < x.t.length
      · have HB := hide (show l.any bigV = true from any_hit HX.out (by simp [bigV, hb]))
        have b1 : (5000 : Int) < x.t.length := by omega
        clear hb
        go_wp2
        go_ret
        refine ⟨?_, rfl⟩
        rw [HB.out]
        rfl
      · have HN := hide (any_on HX.out HA.out (by simp [bigV]; omega))
        have b1 : ¬ (5000 : Int) < x.t.length := by omega
        clear hb
        go_wp2
        exact ⟨⟨i + 1, by omega, by go_num, HN⟩, by simp [intOf]; omega⟩
    · have j1 : ¬ (i : Int) < l.length := by omega
      go_wp2
      go_ret
      refine ⟨?_, rfl⟩
      have := HA.out
      rw [List.take_of_length_le (by omega)] at this
      rw [this]
      rfl
end Go.Proofs.Ytgdpcdpkaaefbaa.Cn
namespace Go.Proofs.Ytgdpcdpkaaefbaa.Cn
open Go.RowKit hiding Hid
open Go.Maps Go.Proofs.Ytgdpcdpkaaefbaa.Tx Go.Proofs.Ytgdpcdpkaaefbaa.Lx Go.Proofs.Ytgdpcdpkaaefbaa.Mp Go.Proofs.Ytgdpcdpkaaefbaa.Bits Go.Proofs.Ytgdpcdpkaaefbaa.Tr Go.Proofs.Ytgdpcdpkaaefbaa.Bm
set_option linter.unusedVariables false
set_option linter.unusedSimpArgs false
set_option maxRecDepth 100000

theorem large_as {l : List Vl} (hl : l.length ≤ 100) (ht : ∀ v ∈ l, v.t.length ≤ 9223372036854775807) {B : Bool} (h : l.any bigV = B) : ∀ (W : World) (o : Option Addr) (cp : Nat), Cls W o (l.flatMap vC) → Calls Try.prog 10 #[.slice o l.length cp] W fun e w' => e = .returned (.bool B) ∧ w' = W := fun W o cp hc => by
  have := large_at (cp := cp) (by omega) ht hc
  rw [h] at this
  exact this
set_option maxHeartbeats 6400000 in
theorem lone_walk (s : List UInt8) (hs : s.length ≤ maxLen) (v : Vl) (hv : v.t.length ≤ maxLen) (w : World) : Calls Try.prog 3 #[.string (bs s), vV v] w (Told w (.bool true)) := by
  have hv' : v.t.length ≤ 9223372036854775807 := Nat.le_trans hv (by unfold maxLen; decide)
  have HC := hide (Cx.start w (fun _ => False))
  have HOne := fun W => one_at s hs v hv' W
  have HROne := fun W => rone_at s v hv' W
  obtain ⟨⟨⟨rf, rn, rt⟩, re⟩, hI⟩ : ∃ R, oneP s v = R := ⟨_, rfl⟩
  rw [hI] at HOne HROne
  have HG := fun W => good_at v hv' W
  have HRG := fun W => rgood_at v hv' W
  obtain ⟨B, hB⟩ : ∃ B, goodV v = B := ⟨_, rfl⟩
  rw [hB] at HG HRG
  have HSM := hide (fun W => same_self ⟨rf, rn, rt⟩ W)
  obtain ⟨L, hL⟩ : ∃ L, [v].any bigV = L := ⟨_, rfl⟩
  have HLG := hide (large_as (l := [v]) (by simp) (by simpa using hv') hL)
  obtain ⟨f, n, t⟩ := v
  unfold rsV vV at *
  dsimp only at HOne HROne HG HRG HSM
  replace HOne := hide HOne
  replace HROne := hide HROne
  replace HG := hide HG
  replace HRG := hide HRG
  clear hI hB hL hv hv' hs
  cases L with
  | true =>
    go_enter Try.func3, Try.ntmps3
    go_wp2_with (first | (refine at_box 23 rfl ?_; refine wl_box rfl 23 _ rfl _ rfl HC.out ?_; intro b w' hn hc; (replace HC := hide hc; clear hc)) | (refine at_load 23 rfl ?_; refine wl_load_s rfl 23 _ rfl tyV rfl HC.out (by repeat (first | exact List.Mem.head _ | apply List.Mem.tail)) (GetS.all _) rfl ?_) | (refine at_bs 37 rfl ?_; refine wl_bl rfl 37 _ _ rfl 23 [.int .i64 f, .int .i64 n, .string (bs t)] HC.out (by kernel_rfl) ?_; intro b w' hn hc; (replace HC := hide hc; clear hc)) | (go_at_call 10; refine (HLG.out _ _ _ (cls_of HC.out (by repeat (first | exact List.Mem.head _ | apply List.Mem.tail)))).mono ?_; rintro e w2 ⟨rfl, rfl⟩) | (go_at_call 11; refine (wakes_at _).mono ?_; rintro e w2 ⟨rfl, hg⟩; (replace HC := hide (HC.out.g hg); clear hg)))
    go_ret
    exact ⟨rfl, HC.out.grown⟩
  | false =>
    go_enter Try.func3, Try.ntmps3
    go_wp2_with (first | (refine at_box 23 rfl ?_; refine wl_box rfl 23 _ rfl _ rfl HC.out ?_; intro b w' hn hc; (replace HC := hide hc; clear hc)) | (refine at_load 23 rfl ?_; refine wl_load_s rfl 23 _ rfl tyV rfl HC.out (by repeat (first | exact List.Mem.head _ | apply List.Mem.tail)) (GetS.all _) rfl ?_) | (refine at_bs 37 rfl ?_; refine wl_bl rfl 37 _ _ rfl 23 [.int .i64 f, .int .i64 n, .string (bs t)] HC.out (by kernel_rfl) ?_; intro b w' hn hc; (replace HC := hide hc; clear hc)) | (go_at_call 10; refine (HLG.out _ _ _ (cls_of HC.out (by repeat (first | exact List.Mem.head _ | apply List.Mem.tail)))).mono ?_; rintro e w2 ⟨rfl, rfl⟩) | (go_at_call 12; (refine (HOne.out _).mono ?_; rintro e w2 ⟨rfl, hg⟩; (replace HC := hide (HC.out.g hg); clear hg))) | (go_at_call 13; (refine (HROne.out _).mono ?_; rintro e w2 ⟨rfl, hg⟩; (replace HC := hide (HC.out.g hg); clear hg))) | (refine at_alloc 23 rfl ?_; refine wl_alloc rfl 23 rfl _ zV HC.out ?_; intro b w' hn hc; (replace HC := hide hc; clear hc)) | (refine at_store 23 rfl ?_; refine wl_store rfl 23 _ _ rfl rfl rfl tyV.sz rfl HC.out (by repeat (first | exact List.Mem.head _ | apply List.Mem.tail)) (by exact PutS.all _ _ rfl) (by repeat (first | exact Upd.here _ _ _ | apply Upd.there)) ?_; intro w' hc; (replace HC := hide hc; clear hc)))
    (replace HC := hide (HC.out.g (d1_g _)); have HC0 := HC; refine wp_region_inO (fun W => World.grownBy _ W none) 99 [0, 1, 3, 4, 5, 6, 7, 8, 9, 11, 13, 14, 15, 17, 18] [0, 1, 2, 3, 4, 5, 6, 7, 8, 9, 11, 10, 12, 13, 14, 15, 16, 17, 18] (by kernel_rfl) (by kernel_rfl) (by kernel_rfl) (by kernel_rfl) (fun _ _ d _ _ h => by cases d <;> exact h) (gr_ref _ _) ?_; have HS := hide (gr_of HC.out none))
    (refine inO_read rfl rfl (yl_s tyV rfl rfl rfl HC0.out (by first | assumption | exact nx0 _) (by repeat (first | exact List.Mem.head _ | apply List.Mem.tail)) (GetS.all _) rfl) ?_; (try simp only [Act.put, List.getElem_toArray, List.getElem_cons_zero, List.getElem_cons_succ, List.setIfInBounds_toArray, List.set_cons_zero, List.set_cons_succ]))
    (refine inO_read rfl rfl (yl_s tyV rfl rfl rfl HC0.out (by first | assumption | exact nx0 _) (by repeat (first | exact List.Mem.head _ | apply List.Mem.tail)) (GetS.all _) rfl) ?_; (try simp only [Act.put, List.getElem_toArray, List.getElem_cons_zero, List.getElem_cons_succ, List.setIfInBounds_toArray, List.set_cons_zero, List.set_cons_succ]))
    (refine inO_act rfl rfl rfl (fun K' hK => ?_))
    go_simp
    refine (HSM.out _).mono ?_
    rintro e w1 ⟨rfl, hg⟩
    (replace HC := hide (HC.out.g hg); refine hK _ _ (.inr (gr_then0 HS.out hg)) ?_; replace HS := hide (gr_then0 HS.out hg); clear hK K' hg; (try simp only [Act.put, List.getElem_toArray, List.getElem_cons_zero, List.getElem_cons_succ, List.setIfInBounds_toArray, List.set_cons_zero, List.set_cons_succ]))
    (refine inO_read (v := ?_) rfl rfl (Or.inl ⟨by rfl, ?_⟩) ?_; rotate_left 1; (focus (intro W hSW; clear hSW; go_simp; (try (with_reducible rfl)))); (try simp only [Act.put, List.getElem_toArray, List.getElem_cons_zero, List.getElem_cons_succ, List.setIfInBounds_toArray, List.set_cons_zero, List.set_cons_succ]))
    (refine inO_read (v := ?_) rfl rfl (Or.inl ⟨by rfl, ?_⟩) ?_; rotate_left 1; (focus (intro W hSW; clear hSW; go_simp; (try (with_reducible rfl)))); (try simp only [Act.put, List.getElem_toArray, List.getElem_cons_zero, List.getElem_cons_succ, List.setIfInBounds_toArray, List.set_cons_zero, List.set_cons_succ]))
    (refine inO_read (v := ?_) rfl rfl (Or.inl ⟨by rfl, ?_⟩) ?_; rotate_left 1; (focus (intro W hSW; clear hSW; go_simp; (try (with_reducible rfl)))); (try simp only [Act.put, List.getElem_toArray, List.getElem_cons_zero, List.getElem_cons_succ, List.setIfInBounds_toArray, List.set_cons_zero, List.set_cons_succ]))
    (refine inO_read (v := ?_) rfl rfl (Or.inl ⟨by rfl, ?_⟩) ?_; rotate_left 1; (focus (intro W hSW; clear hSW; go_simp; (try (with_reducible rfl)))); (try simp only [Act.put, List.getElem_toArray, List.getElem_cons_zero, List.getElem_cons_succ, List.setIfInBounds_toArray, List.set_cons_zero, List.set_cons_succ]))
    (refine inO_read (v := ?_) rfl rfl (Or.inl ⟨by rfl, ?_⟩) ?_; rotate_left 1; (focus (intro W hSW; clear hSW; go_simp; (try (with_reducible rfl)))); (try simp only [Act.put, List.getElem_toArray, List.getElem_cons_zero, List.getElem_cons_succ, List.setIfInBounds_toArray, List.set_cons_zero, List.set_cons_succ]))
    (refine inO_read (v := ?_) rfl rfl (Or.inl ⟨by rfl, ?_⟩) ?_; rotate_left 1; (focus (intro W hSW; clear hSW; go_simp; (try (with_reducible rfl)))); (try simp only [Act.put, List.getElem_toArray, List.getElem_cons_zero, List.getElem_cons_succ, List.setIfInBounds_toArray, List.set_cons_zero, List.set_cons_succ]))
    (refine inO_read rfl rfl (yl_s tyV rfl rfl rfl HC0.out (by first | assumption | exact nx0 _) (by repeat (first | exact List.Mem.head _ | apply List.Mem.tail)) (GetS.all _) rfl) ?_; (try simp only [Act.put, List.getElem_toArray, List.getElem_cons_zero, List.getElem_cons_succ, List.setIfInBounds_toArray, List.set_cons_zero, List.set_cons_succ]))
    (refine inO_read rfl rfl (yl_s tyV rfl rfl rfl HC0.out (by first | assumption | exact nx0 _) (by repeat (first | exact List.Mem.head _ | apply List.Mem.tail)) (GetS.all _) rfl) ?_; (try simp only [Act.put, List.getElem_toArray, List.getElem_cons_zero, List.getElem_cons_succ, List.setIfInBounds_toArray, List.set_cons_zero, List.set_cons_succ]))
    (refine inO_act rfl rfl rfl (fun K' hK => ?_))
    go_simp
    refine (HG.out _).mono ?_
    rintro e w1 ⟨rfl, hg⟩
    (replace HC := hide (HC.out.g hg); refine hK _ _ (.inr (gr_then0 HS.out hg)) ?_; replace HS := hide (gr_then0 HS.out hg); clear hK K' hg; (try simp only [Act.put, List.getElem_toArray, List.getElem_cons_zero, List.getElem_cons_succ, List.setIfInBounds_toArray, List.set_cons_zero, List.set_cons_succ]))
    (refine inO_act rfl rfl rfl (fun K' hK => ?_))
    go_simp
    refine (HRG.out _).mono ?_
    rintro e w1 ⟨rfl, hg⟩
    (replace HC := hide (HC.out.g hg); refine hK _ _ (.inr (gr_then0 HS.out hg)) ?_; replace HS := hide (gr_then0 HS.out hg); clear hK K' hg; (try simp only [Act.put, List.getElem_toArray, List.getElem_cons_zero, List.getElem_cons_succ, List.setIfInBounds_toArray, List.set_cons_zero, List.set_cons_succ]))
    (refine inO_read (v := ?_) rfl rfl (Or.inl ⟨by rfl, ?_⟩) ?_; rotate_left 1; (focus (intro W hSW; clear hSW; go_simp; (try (with_reducible rfl)))); (try simp only [Act.put, List.getElem_toArray, List.getElem_cons_zero, List.getElem_cons_succ, List.setIfInBounds_toArray, List.set_cons_zero, List.set_cons_succ]))
    (refine inO_read (v := ?_) rfl rfl (Or.inl ⟨by rfl, ?_⟩) ?_; rotate_left 1; (focus (intro W hSW; clear hSW; go_simp; (try (with_reducible rfl)))); (try simp only [Act.put, List.getElem_toArray, List.getElem_cons_zero, List.getElem_cons_succ, List.setIfInBounds_toArray, List.set_cons_zero, List.set_cons_succ]))
    (refine inO_read (v := ?_) rfl rfl (Or.inl ⟨by rfl, ?_⟩) ?_; rotate_left 1; (focus (intro W hSW; clear hSW; go_simp; (try (with_reducible rfl)))); (try simp only [Act.put, List.getElem_toArray, List.getElem_cons_zero, List.getElem_cons_succ, List.setIfInBounds_toArray, List.set_cons_zero, List.set_cons_succ]))
    (refine inO_act rfl rfl rfl (fun K' hK => ?_))
    go_simp
    refine (wakes_at _).mono ?_
    rintro e w1 ⟨rfl, hg⟩
    (replace HC := hide (HC.out.g hg); refine hK _ _ (.inr (gr_then0 HS.out hg)) ?_; replace HS := hide (gr_then0 HS.out hg); clear hK K' hg; (try simp only [Act.put, List.getElem_toArray, List.getElem_cons_zero, List.getElem_cons_succ, List.setIfInBounds_toArray, List.set_cons_zero, List.set_cons_succ]))
    (refine inO_read (v := ?_) rfl rfl (Or.inl ⟨by rfl, ?_⟩) ?_; rotate_left 1; (focus (intro W hSW; clear hSW; go_simp; (try (with_reducible rfl)))); (try simp only [Act.put, List.getElem_toArray, List.getElem_cons_zero, List.getElem_cons_succ, List.setIfInBounds_toArray, List.set_cons_zero, List.set_cons_succ]))
    (refine inO_read (v := ?_) rfl rfl (Or.inl ⟨by rfl, ?_⟩) ?_; rotate_left 1; (focus (intro W hSW; clear hSW; go_simp; (try (with_reducible rfl)))); (try simp only [Act.put, List.getElem_toArray, List.getElem_cons_zero, List.getElem_cons_succ, List.setIfInBounds_toArray, List.set_cons_zero, List.set_cons_succ]))
    (refine inO_end ?_)
    go_wp2
    go_ret
    exact ⟨rfl, HC.out.grown⟩
end Go.Proofs.Ytgdpcdpkaaefbaa.Cn
namespace Go.Proofs.Ytgdpcdpkaaefbaa.Cn
open Go.RowKit hiding Hid
open Go.Maps Go.Proofs.Ytgdpcdpkaaefbaa.Tx Go.Proofs.Ytgdpcdpkaaefbaa.Lx Go.Proofs.Ytgdpcdpkaaefbaa.Mp Go.Proofs.Ytgdpcdpkaaefbaa.Bits Go.Proofs.Ytgdpcdpkaaefbaa.Tr Go.Proofs.Ytgdpcdpkaaefbaa.Bm
set_option linter.unusedVariables false
set_option linter.unusedSimpArgs false
set_option maxRecDepth 100000

def ltB (p : Ky × Cd) : Bool := p.1.2.2 != [60] || (p.1.2.1 == 1 || (p.1.2.1 == 3 || p.1.2.1 == 6))
theorem lt_all : twosE.all ltB = true := by kernel_rfl
theorem lt_miss {x y : Vl} (h : ¬ (y.f = 1 ∨ y.f = 3 ∨ y.f = 6)) : rk twosE [60] x y = noR := rk_miss (fun p hp e => by
  have := List.all_eq_true.1 lt_all p hp
  unfold ltB at this
  rw [e] at this
  simp at this
  exact h this)
theorem order_pure (a b : Vl) : twoP [60] a b = noR ∨ ∃ o : Int, ∀ s, isRel s = true → twoP s a b = bolR (relP s o).1 := by
  unfold twoP
  by_cases hg : goodV a = true ∧ goodV b = true
  · simp only [if_pos hg]
    by_cases hxy : (besV a b).f = (besV b a).f
    · by_cases h : (besV b a).f = 1 ∨ (besV b a).f = 3 ∨ (besV b a).f = 6
      · exact .inr ⟨ordI (besV a b) (besV b a), fun s hs => rel_pure hxy (by omega) (by omega) hs (.inr (.inr h))⟩
      · exact .inl (lt_miss h)
    · exact .inl (none_un hxy (by rintro ⟨_, _, h⟩; exact absurd h (by decide)))
  · simp only [if_neg hg]
    exact .inl trivial
/-- the six signs, as the law lists them -/
def sixS : List (List UInt8) := [[60], [61], [62], [60, 61], [35], [62, 61]]
def nB (b : Bool) : Int := if b = true then 1 else 0
/-- the number that the i-th sign tells of an order -/
def sixN (o : Int) (s : List UInt8) : Int := nB (relP s o).1
theorem six_rel : sixS.all isRel = true := by decide
theorem six_len : sixS.all (fun s => decide (s.length ≤ 100)) = true := by decide
theorem six_is (o : Int) : (o < 0 ∧ sixS.map (sixN o) = [1, 0, 0, 1, 1, 0]) ∨ (o = 0 ∧ sixS.map (sixN o) = [0, 1, 0, 1, 0, 1]) ∨ (0 < o ∧ sixS.map (sixN o) = [0, 0, 1, 0, 1, 1]) := by
  have e : sixS.map (sixN o) = [nB (decide (o < 0)), nB (o == 0), nB (decide (0 < o)), nB (decide (o ≤ 0)), nB (o != 0), nB (decide (0 ≤ o))] := rfl
  rw [e]
  rcases Int.lt_trichotomy o 0 with h | h | h
  · exact .inl ⟨h, by simp [nB, h, Int.le_of_lt h, Int.ne_of_lt h, Int.not_lt.2 (Int.le_of_lt h), Int.not_le.2 h]⟩
  · subst h; exact .inr (.inl ⟨rfl, by decide⟩)
  · exact .inr (.inr ⟨h, by simp [nB, h, Int.le_of_lt h, Int.ne_of_gt h, Int.not_lt.2 (Int.le_of_lt h), Int.not_le.2 h]⟩)
theorem order_six (a b : Vl) : (twoP [60] a b = noR) ∨ ∃ o : Int, ∀ s ∈ sixS, twoP s a b = (⟨2, sixN o s, []⟩, 0) := by
  rcases order_pure a b with h | ⟨o, h⟩
  · exact .inl h
  · exact .inr ⟨o, fun s hs => h s (List.all_eq_true.1 six_rel s hs)⟩
end Go.Proofs.Ytgdpcdpkaaefbaa.Cn
namespace Go.Proofs.Ytgdpcdpkaaefbaa.Cn
open Go.RowKit hiding Hid
open Go.Maps Go.Proofs.Ytgdpcdpkaaefbaa.Tx Go.Proofs.Ytgdpcdpkaaefbaa.Lx Go.Proofs.Ytgdpcdpkaaefbaa.Mp Go.Proofs.Ytgdpcdpkaaefbaa.Bits Go.Proofs.Ytgdpcdpkaaefbaa.Tr Go.Proofs.Ytgdpcdpkaaefbaa.Bm
set_option linter.unusedVariables false
set_option linter.unusedSimpArgs false
set_option maxRecDepth 100000

set_option maxHeartbeats 6400000 in
theorem order_large (a b : Vl) (ha : a.t.length ≤ maxLen) (hb : b.t.length ≤ maxLen) (hL : [a, b].any bigV = true) (w : World) : Calls Try.prog 9 #[vV a, vV b] w (Told w (.bool true)) := by
  have ha' : a.t.length ≤ 9223372036854775807 := Nat.le_trans ha (by unfold maxLen; decide)
  have hb' : b.t.length ≤ 9223372036854775807 := Nat.le_trans hb (by unfold maxLen; decide)
  have HC := hide (Cx.start w (fun _ => False))
  have HLG := hide (large_as (l := [a, b]) (by simp) (by intro v hv; simp at hv; rcases hv with rfl | rfl <;> assumption) hL)
  obtain ⟨f, n, t⟩ := a
  obtain ⟨g, m, u⟩ := b
  unfold vV at *
  clear hL ha ha' hb hb'
  go_enter Try.func9, Try.ntmps9
  go_wp2_with (first | (refine at_box 23 rfl ?_; refine wl_box rfl 23 _ rfl _ rfl HC.out ?_; intro b w' hn hc; (replace HC := hide hc; clear hc)) | (refine at_load 23 rfl ?_; refine wl_load_s rfl 23 _ rfl tyV rfl HC.out (by repeat (first | exact List.Mem.head _ | apply List.Mem.tail)) (GetS.all _) rfl ?_) | (refine at_bs 37 rfl ?_; refine wl_bl rfl 37 _ _ rfl 23 [.int .i64 f, .int .i64 n, .string (bs t), .int .i64 g, .int .i64 m, .string (bs u)] HC.out (by kernel_rfl) ?_; intro bl w' hn hc; (replace HC := hide hc; clear hc)) | (go_at_call 10; refine (HLG.out _ _ _ (cls_of HC.out (by repeat (first | exact List.Mem.head _ | apply List.Mem.tail)))).mono ?_; rintro e w2 ⟨rfl, rfl⟩) | (go_at_call 11; refine (wakes_at _).mono ?_; rintro e w2 ⟨rfl, hg⟩; (replace HC := hide (HC.out.g hg); clear hg)))
  go_ret
  exact ⟨rfl, HC.out.grown⟩
set_option maxHeartbeats 6400000 in
theorem order_bad (a b : Vl) (ha : a.t.length ≤ maxLen) (hb : b.t.length ≤ maxLen) (hL : [a, b].any bigV = false) (hN : twoP [60] a b = noR) (w : World) : Calls Try.prog 9 #[vV a, vV b] w (Told w (.bool true)) := by
  have ha' : a.t.length ≤ 9223372036854775807 := Nat.le_trans ha (by unfold maxLen; decide)
  have hb' : b.t.length ≤ 9223372036854775807 := Nat.le_trans hb (by unfold maxLen; decide)
  have HC := hide (Cx.start w (fun _ => False))
  have HTwo := fun W => two_at [60] (by unfold maxLen; decide) a b ha' hb' W
  have HRTwo := fun W => rtwo_at [60] a b ha' hb' W
  rw [hN] at HTwo HRTwo
  have HLG := hide (large_as (l := [a, b]) (by simp) (by intro v hv; simp at hv; rcases hv with rfl | rfl <;> assumption) hL)
  obtain ⟨f, n, t⟩ := a
  obtain ⟨g, m, u⟩ := b
  unfold noR Vl.z rsV vV at *
  dsimp only at HTwo HRTwo
  replace HTwo := hide HTwo
  replace HRTwo := hide HRTwo
  clear hL hN ha ha' hb hb'
  have A1 := True.intro
  go_enter Try.func9, Try.ntmps9
  go_wp2_with (first | (clear A1; (refine at_box 23 rfl ?_; refine wl_box rfl 23 _ rfl _ rfl HC.out ?_; intro b1 w' hn hc; (replace HC := hide hc; clear hc))) | (refine at_box 23 rfl ?_; refine wl_box rfl 23 _ rfl _ rfl HC.out ?_; intro b2 w' hn hc; (replace HC := hide hc; clear hc)) | (refine at_load 23 rfl ?_; refine wl_load_s rfl 23 _ rfl tyV rfl HC.out (by repeat (first | exact List.Mem.head _ | apply List.Mem.tail)) (GetS.all _) rfl ?_) | (refine at_bs 37 rfl ?_; refine wl_bl rfl 37 _ _ rfl 23 [.int .i64 f, .int .i64 n, .string (bs t), .int .i64 g, .int .i64 m, .string (bs u)] HC.out (by kernel_rfl) ?_; intro bl w' hn hc; (replace HC := hide hc; clear hc)) | (go_at_call 10; refine (HLG.out _ _ _ (cls_of HC.out (by repeat (first | exact List.Mem.head _ | apply List.Mem.tail)))).mono ?_; rintro e w2 ⟨rfl, rfl⟩) | (refine at_bs 51 rfl ?_; refine wl_bl rfl 51 _ _ rfl 9 [.string (bs [60]), .string (bs [61]), .string (bs [62]), .string (bs [60, 61]), .string (bs [35]), .string (bs [62, 61])] HC.out (by kernel_rfl) ?_; intro bS w' hn hc; (replace HC := hide hc; clear hc)))
  (try simp only [Act.put, List.getElem_toArray, List.getElem_cons_zero, List.getElem_cons_succ, List.setIfInBounds_toArray, List.set_cons_zero, List.set_cons_succ])
  go_loopw [6, 7] (fun sv iv W => sv = .slice none 0 0 ∧ iv = .int .i64 0 ∧ Hid (Cx w (fun _ => False) none [⟨bS, [.string (bs [60]), .string (bs [61]), .string (bs [62]), .string (bs [60, 61]), .string (bs [35]), .string (bs [62, 61])], 9⟩, ⟨bl, [.int .i64 f, .int .i64 n, .string (bs t), .int .i64 g, .int .i64 m, .string (bs u)], 23⟩, ⟨b2, [.int .i64 g, .int .i64 m, .string (bs u)], 23⟩, ⟨b1, [.int .i64 f, .int .i64 n, .string (bs t)], 23⟩] [] [] W)) (fun _ _ _ => 0)
  case atStart => exact ⟨rfl, rfl, HC⟩
  case round =>
    clear HC
    obtain ⟨rfl, rfl, HC⟩ := hrel
    go_wp2
    (replace HC := hide (HC.out.g (d1_g _)); refine wp_region_inT (fun W => W.heap[bS]? = some (.cells ([.string (bs [60]), .string (bs [61]), .string (bs [62]), .string (bs [60, 61]), .string (bs [35]), .string (bs [62, 61])] : List Value).toArray 9 (0, 0)) ∧ W.heap[b1]? = some (.cells ([.int .i64 f, .int .i64 n, .string (bs t)] : List Value).toArray 23 (0, 0)) ∧ W.heap[b2]? = some (.cells ([.int .i64 g, .int .i64 m, .string (bs u)] : List Value).toArray 23 (0, 0))) 99 (.rd 0 (.rd 1 (.rd 2 (.rd 3 (.rd 4 (.rd 5 (.fork 6 (.rd 7 (.rd 8 (.rd 9 (.act 10 (.act 11 (.rd 12 .nil)))))) 10 (.act 6 (.rd 7 (.rd 8 (.rd 9 (.act 11 (.rd 12 .nil)))))))))))))  (by kernel_rfl) (by kernel_rfl) (by kernel_rfl) (by kernel_rfl) (fun _ _ d _ _ h => by cases d <;> exact h) (⟨HC.out.loc ⟨bS, [.string (bs [60]), .string (bs [61]), .string (bs [62]), .string (bs [60, 61]), .string (bs [35]), .string (bs [62, 61])], 9⟩ (by repeat (first | exact List.Mem.head _ | apply List.Mem.tail)), HC.out.loc ⟨b1, [.int .i64 f, .int .i64 n, .string (bs t)], 23⟩ (by repeat (first | exact List.Mem.head _ | apply List.Mem.tail)), HC.out.loc ⟨b2, [.int .i64 g, .int .i64 m, .string (bs u)], 23⟩ (by repeat (first | exact List.Mem.head _ | apply List.Mem.tail))⟩) ?_; (refine inT_read (v := ?_) rfl (Or.inl ⟨by rfl, ?_⟩) ?_; rotate_left 1; (focus (intro W hSW; clear hSW; go_simp; (try (with_reducible rfl)))); (try simp only [Act.put, List.getElem_toArray, List.getElem_cons_zero, List.getElem_cons_succ, List.setIfInBounds_toArray, List.set_cons_zero, List.set_cons_succ])); (refine inT_read (v := ?_) rfl (Or.inl ⟨by rfl, ?_⟩) ?_; rotate_left 1; (focus (intro W hSW; clear hSW; go_simp; (try (with_reducible rfl)))); (try simp only [Act.put, List.getElem_toArray, List.getElem_cons_zero, List.getElem_cons_succ, List.setIfInBounds_toArray, List.set_cons_zero, List.set_cons_succ])); (refine inT_read (v := ?_) rfl (Or.inl ⟨by rfl, ?_⟩) ?_; rotate_left 1; (focus (intro W hSW; clear hSW; go_simp; (try (with_reducible rfl)))); (try simp only [Act.put, List.getElem_toArray, List.getElem_cons_zero, List.getElem_cons_succ, List.setIfInBounds_toArray, List.set_cons_zero, List.set_cons_succ])); (refine inT_read rfl (yl_cell tcT rfl rfl rfl (fun W hW => cell_of_row _ _ _ _ _ _ hW.1)) ?_; (try simp only [Act.put, List.getElem_toArray, List.getElem_cons_zero, List.getElem_cons_succ, List.setIfInBounds_toArray, List.set_cons_zero, List.set_cons_succ])); (refine inT_read rfl (yl_load rfl rfl rfl (fun W hW => load_of hW.2.1)) ?_; (try simp only [Act.put, List.getElem_toArray, List.getElem_cons_zero, List.getElem_cons_succ, List.setIfInBounds_toArray, List.set_cons_zero, List.set_cons_succ])); (refine inT_read rfl (yl_load rfl rfl rfl (fun W hW => load_of hW.2.2)) ?_; (try simp only [Act.put, List.getElem_toArray, List.getElem_cons_zero, List.getElem_cons_succ, List.setIfInBounds_toArray, List.set_cons_zero, List.set_cons_succ])))
    (refine inT_fork rfl rfl rfl rfl (fun K' hK => ?_) (fun K' hK => ?_))
    · ((go_simp; refine (HTwo.out _).mono ?_; rintro e w1 ⟨rfl, hg⟩; (replace HC := hide (HC.out.g hg); clear hg); (refine hK _ _ (.inr (⟨HC.out.loc ⟨bS, [.string (bs [60]), .string (bs [61]), .string (bs [62]), .string (bs [60, 61]), .string (bs [35]), .string (bs [62, 61])], 9⟩ (by repeat (first | exact List.Mem.head _ | apply List.Mem.tail)), HC.out.loc ⟨b1, [.int .i64 f, .int .i64 n, .string (bs t)], 23⟩ (by repeat (first | exact List.Mem.head _ | apply List.Mem.tail)), HC.out.loc ⟨b2, [.int .i64 g, .int .i64 m, .string (bs u)], 23⟩ (by repeat (first | exact List.Mem.head _ | apply List.Mem.tail))⟩)) ?_; clear hK K'; (try simp only [Act.put, List.getElem_toArray, List.getElem_cons_zero, List.getElem_cons_succ, List.setIfInBounds_toArray, List.set_cons_zero, List.set_cons_succ]))); (refine inT_read (v := ?_) rfl (Or.inl ⟨by rfl, ?_⟩) ?_; rotate_left 1; (focus (intro W hSW; clear hSW; go_simp; (try (with_reducible rfl)))); (try simp only [Act.put, List.getElem_toArray, List.getElem_cons_zero, List.getElem_cons_succ, List.setIfInBounds_toArray, List.set_cons_zero, List.set_cons_succ])); (refine inT_read (v := ?_) rfl (Or.inl ⟨by rfl, ?_⟩) ?_; rotate_left 1; (focus (intro W hSW; clear hSW; go_simp; (try (with_reducible rfl)))); (try simp only [Act.put, List.getElem_toArray, List.getElem_cons_zero, List.getElem_cons_succ, List.setIfInBounds_toArray, List.set_cons_zero, List.set_cons_succ])); (refine inT_read (v := ?_) rfl (Or.inl ⟨by rfl, ?_⟩) ?_; rotate_left 1; (focus (intro W hSW; clear hSW; go_simp; (try (with_reducible rfl)))); (try simp only [Act.put, List.getElem_toArray, List.getElem_cons_zero, List.getElem_cons_succ, List.setIfInBounds_toArray, List.set_cons_zero, List.set_cons_succ])); (refine inT_act rfl rfl (fun K' hK => ?_)); (refine op_alloc 23 rfl zV HC.out ?_; intro b3 w' hn hg hc; (replace HC := hide hc; clear hc); (refine hK _ _ (.inr (⟨HC.out.loc ⟨bS, [.string (bs [60]), .string (bs [61]), .string (bs [62]), .string (bs [60, 61]), .string (bs [35]), .string (bs [62, 61])], 9⟩ (by repeat (first | exact List.Mem.head _ | apply List.Mem.tail)), HC.out.loc ⟨b1, [.int .i64 f, .int .i64 n, .string (bs t)], 23⟩ (by repeat (first | exact List.Mem.head _ | apply List.Mem.tail)), HC.out.loc ⟨b2, [.int .i64 g, .int .i64 m, .string (bs u)], 23⟩ (by repeat (first | exact List.Mem.head _ | apply List.Mem.tail))⟩)) ?_; clear hK K'; (try simp only [Act.put, List.getElem_toArray, List.getElem_cons_zero, List.getElem_cons_succ, List.setIfInBounds_toArray, List.set_cons_zero, List.set_cons_succ]))); (refine inT_act rfl rfl (fun K' hK => ?_)); (refine op_store_g _ _ _ rfl rfl rfl tyV.sz rfl HC.out (by repeat (first | exact List.Mem.head _ | apply List.Mem.tail)) (by exact PutS.all _ _ rfl) (by repeat (first | exact Upd.here _ _ _ | apply Upd.there)) ?_; intro w' hg hc; (replace HC := hide hc; clear hc); (refine hK _ _ (.inr (⟨HC.out.loc ⟨bS, [.string (bs [60]), .string (bs [61]), .string (bs [62]), .string (bs [60, 61]), .string (bs [35]), .string (bs [62, 61])], 9⟩ (by repeat (first | exact List.Mem.head _ | apply List.Mem.tail)), HC.out.loc ⟨b1, [.int .i64 f, .int .i64 n, .string (bs t)], 23⟩ (by repeat (first | exact List.Mem.head _ | apply List.Mem.tail)), HC.out.loc ⟨b2, [.int .i64 g, .int .i64 m, .string (bs u)], 23⟩ (by repeat (first | exact List.Mem.head _ | apply List.Mem.tail))⟩)) ?_; clear hK K'; (try simp only [Act.put, List.getElem_toArray, List.getElem_cons_zero, List.getElem_cons_succ, List.setIfInBounds_toArray, List.set_cons_zero, List.set_cons_succ]))); (refine inT_read (v := ?_) rfl (Or.inl ⟨by rfl, ?_⟩) ?_; rotate_left 1; (focus (intro W hSW; clear hSW; go_simp; (try (with_reducible rfl)))); (try simp only [Act.put, List.getElem_toArray, List.getElem_cons_zero, List.getElem_cons_succ, List.setIfInBounds_toArray, List.set_cons_zero, List.set_cons_succ])); (refine inT_end ?_))
      go_wp2
      (replace HC := hide (HC.out.g (d1_g _)); refine wp_region_inT (fun W => W.heap[bS]? = some (.cells ([.string (bs [60]), .string (bs [61]), .string (bs [62]), .string (bs [60, 61]), .string (bs [35]), .string (bs [62, 61])] : List Value).toArray 9 (0, 0)) ∧ W.heap[b1]? = some (.cells ([.int .i64 f, .int .i64 n, .string (bs t)] : List Value).toArray 23 (0, 0)) ∧ W.heap[b2]? = some (.cells ([.int .i64 g, .int .i64 m, .string (bs u)] : List Value).toArray 23 (0, 0))) 99 (.rd 0 (.rd 1 (.rd 2 (.rd 3 (.rd 4 (.rd 5 (.fork 6 (.rd 7 (.rd 8 (.rd 9 (.act 10 (.act 11 (.rd 12 .nil)))))) 10 (.act 6 (.rd 7 (.rd 8 (.rd 9 (.act 11 (.rd 12 .nil)))))))))))))  (by kernel_rfl) (by kernel_rfl) (by kernel_rfl) (by kernel_rfl) (fun _ _ d _ _ h => by cases d <;> exact h) (⟨HC.out.loc ⟨bS, [.string (bs [60]), .string (bs [61]), .string (bs [62]), .string (bs [60, 61]), .string (bs [35]), .string (bs [62, 61])], 9⟩ (by repeat (first | exact List.Mem.head _ | apply List.Mem.tail)), HC.out.loc ⟨b1, [.int .i64 f, .int .i64 n, .string (bs t)], 23⟩ (by repeat (first | exact List.Mem.head _ | apply List.Mem.tail)), HC.out.loc ⟨b2, [.int .i64 g, .int .i64 m, .string (bs u)], 23⟩ (by repeat (first | exact List.Mem.head _ | apply List.Mem.tail))⟩) ?_; (refine inT_read (v := ?_) rfl (Or.inl ⟨by rfl, ?_⟩) ?_; rotate_left 1; (focus (intro W hSW; clear hSW; go_simp; (try (with_reducible rfl)))); (try simp only [Act.put, List.getElem_toArray, List.getElem_cons_zero, List.getElem_cons_succ, List.setIfInBounds_toArray, List.set_cons_zero, List.set_cons_succ])); (refine inT_read (v := ?_) rfl (Or.inl ⟨by rfl, ?_⟩) ?_; rotate_left 1; (focus (intro W hSW; clear hSW; go_simp; (try (with_reducible rfl)))); (try simp only [Act.put, List.getElem_toArray, List.getElem_cons_zero, List.getElem_cons_succ, List.setIfInBounds_toArray, List.set_cons_zero, List.set_cons_succ])); (refine inT_read (v := ?_) rfl (Or.inl ⟨by rfl, ?_⟩) ?_; rotate_left 1; (focus (intro W hSW; clear hSW; go_simp; (try (with_reducible rfl)))); (try simp only [Act.put, List.getElem_toArray, List.getElem_cons_zero, List.getElem_cons_succ, List.setIfInBounds_toArray, List.set_cons_zero, List.set_cons_succ])); (refine inT_read rfl (yl_cell tcT rfl rfl rfl (fun W hW => cell_of_row _ _ _ _ _ _ hW.1)) ?_; (try simp only [Act.put, List.getElem_toArray, List.getElem_cons_zero, List.getElem_cons_succ, List.setIfInBounds_toArray, List.set_cons_zero, List.set_cons_succ])); (refine inT_read rfl (yl_load rfl rfl rfl (fun W hW => load_of hW.2.1)) ?_; (try simp only [Act.put, List.getElem_toArray, List.getElem_cons_zero, List.getElem_cons_succ, List.setIfInBounds_toArray, List.set_cons_zero, List.set_cons_succ])); (refine inT_read rfl (yl_load rfl rfl rfl (fun W hW => load_of hW.2.2)) ?_; (try simp only [Act.put, List.getElem_toArray, List.getElem_cons_zero, List.getElem_cons_succ, List.setIfInBounds_toArray, List.set_cons_zero, List.set_cons_succ])))
      (refine inT_fork rfl rfl rfl rfl (fun K' hK => ?_) (fun K' hK => ?_))
      · ((go_simp; refine (HRTwo.out _).mono ?_; rintro e w1 ⟨rfl, hg⟩; (replace HC := hide (HC.out.g hg); clear hg); (refine hK _ _ (.inr (⟨HC.out.loc ⟨bS, [.string (bs [60]), .string (bs [61]), .string (bs [62]), .string (bs [60, 61]), .string (bs [35]), .string (bs [62, 61])], 9⟩ (by repeat (first | exact List.Mem.head _ | apply List.Mem.tail)), HC.out.loc ⟨b1, [.int .i64 f, .int .i64 n, .string (bs t)], 23⟩ (by repeat (first | exact List.Mem.head _ | apply List.Mem.tail)), HC.out.loc ⟨b2, [.int .i64 g, .int .i64 m, .string (bs u)], 23⟩ (by repeat (first | exact List.Mem.head _ | apply List.Mem.tail))⟩)) ?_; clear hK K'; (try simp only [Act.put, List.getElem_toArray, List.getElem_cons_zero, List.getElem_cons_succ, List.setIfInBounds_toArray, List.set_cons_zero, List.set_cons_succ]))); (refine inT_read (v := ?_) rfl (Or.inl ⟨by rfl, ?_⟩) ?_; rotate_left 1; (focus (intro W hSW; clear hSW; go_simp; (try (with_reducible rfl)))); (try simp only [Act.put, List.getElem_toArray, List.getElem_cons_zero, List.getElem_cons_succ, List.setIfInBounds_toArray, List.set_cons_zero, List.set_cons_succ])); (refine inT_read (v := ?_) rfl (Or.inl ⟨by rfl, ?_⟩) ?_; rotate_left 1; (focus (intro W hSW; clear hSW; go_simp; (try (with_reducible rfl)))); (try simp only [Act.put, List.getElem_toArray, List.getElem_cons_zero, List.getElem_cons_succ, List.setIfInBounds_toArray, List.set_cons_zero, List.set_cons_succ])); (refine inT_read (v := ?_) rfl (Or.inl ⟨by rfl, ?_⟩) ?_; rotate_left 1; (focus (intro W hSW; clear hSW; go_simp; (try (with_reducible rfl)))); (try simp only [Act.put, List.getElem_toArray, List.getElem_cons_zero, List.getElem_cons_succ, List.setIfInBounds_toArray, List.set_cons_zero, List.set_cons_succ])); (refine inT_act rfl rfl (fun K' hK => ?_)); (refine op_alloc 23 rfl zV HC.out ?_; intro b4 w' hn hg hc; (replace HC := hide hc; clear hc); (refine hK _ _ (.inr (⟨HC.out.loc ⟨bS, [.string (bs [60]), .string (bs [61]), .string (bs [62]), .string (bs [60, 61]), .string (bs [35]), .string (bs [62, 61])], 9⟩ (by repeat (first | exact List.Mem.head _ | apply List.Mem.tail)), HC.out.loc ⟨b1, [.int .i64 f, .int .i64 n, .string (bs t)], 23⟩ (by repeat (first | exact List.Mem.head _ | apply List.Mem.tail)), HC.out.loc ⟨b2, [.int .i64 g, .int .i64 m, .string (bs u)], 23⟩ (by repeat (first | exact List.Mem.head _ | apply List.Mem.tail))⟩)) ?_; clear hK K'; (try simp only [Act.put, List.getElem_toArray, List.getElem_cons_zero, List.getElem_cons_succ, List.setIfInBounds_toArray, List.set_cons_zero, List.set_cons_succ]))); (refine inT_act rfl rfl (fun K' hK => ?_)); (refine op_store_g _ _ _ rfl rfl rfl tyV.sz rfl HC.out (by repeat (first | exact List.Mem.head _ | apply List.Mem.tail)) (by exact PutS.all _ _ rfl) (by repeat (first | exact Upd.here _ _ _ | apply Upd.there)) ?_; intro w' hg hc; (replace HC := hide hc; clear hc); (refine hK _ _ (.inr (⟨HC.out.loc ⟨bS, [.string (bs [60]), .string (bs [61]), .string (bs [62]), .string (bs [60, 61]), .string (bs [35]), .string (bs [62, 61])], 9⟩ (by repeat (first | exact List.Mem.head _ | apply List.Mem.tail)), HC.out.loc ⟨b1, [.int .i64 f, .int .i64 n, .string (bs t)], 23⟩ (by repeat (first | exact List.Mem.head _ | apply List.Mem.tail)), HC.out.loc ⟨b2, [.int .i64 g, .int .i64 m, .string (bs u)], 23⟩ (by repeat (first | exact List.Mem.head _ | apply List.Mem.tail))⟩)) ?_; clear hK K'; (try simp only [Act.put, List.getElem_toArray, List.getElem_cons_zero, List.getElem_cons_succ, List.setIfInBounds_toArray, List.set_cons_zero, List.set_cons_succ]))); (refine inT_read (v := ?_) rfl (Or.inl ⟨by rfl, ?_⟩) ?_; rotate_left 1; (focus (intro W hSW; clear hSW; go_simp; (try (with_reducible rfl)))); (try simp only [Act.put, List.getElem_toArray, List.getElem_cons_zero, List.getElem_cons_succ, List.setIfInBounds_toArray, List.set_cons_zero, List.set_cons_succ])); (refine inT_end ?_))
        (go_wp2_with (first | (go_at_call 11; refine (wakes_at _).mono ?_; rintro e w2 ⟨rfl, hg⟩; (replace HC := hide (HC.out.g hg); clear hg))); go_ret; exact ⟨rfl, HC.out.grown⟩)
      · ((refine op_alloc 23 rfl zV HC.out ?_; intro b4 w' hn hg hc; (replace HC := hide hc; clear hc); (refine hK _ _ (.inr (⟨HC.out.loc ⟨bS, [.string (bs [60]), .string (bs [61]), .string (bs [62]), .string (bs [60, 61]), .string (bs [35]), .string (bs [62, 61])], 9⟩ (by repeat (first | exact List.Mem.head _ | apply List.Mem.tail)), HC.out.loc ⟨b1, [.int .i64 f, .int .i64 n, .string (bs t)], 23⟩ (by repeat (first | exact List.Mem.head _ | apply List.Mem.tail)), HC.out.loc ⟨b2, [.int .i64 g, .int .i64 m, .string (bs u)], 23⟩ (by repeat (first | exact List.Mem.head _ | apply List.Mem.tail))⟩)) ?_; clear hK K'; (try simp only [Act.put, List.getElem_toArray, List.getElem_cons_zero, List.getElem_cons_succ, List.setIfInBounds_toArray, List.set_cons_zero, List.set_cons_succ]))); (refine inT_act rfl rfl (fun K' hK => ?_)); (go_simp; refine (HRTwo.out _).mono ?_; rintro e w1 ⟨rfl, hg⟩; (replace HC := hide (HC.out.g hg); clear hg); (refine hK _ _ (.inr (⟨HC.out.loc ⟨bS, [.string (bs [60]), .string (bs [61]), .string (bs [62]), .string (bs [60, 61]), .string (bs [35]), .string (bs [62, 61])], 9⟩ (by repeat (first | exact List.Mem.head _ | apply List.Mem.tail)), HC.out.loc ⟨b1, [.int .i64 f, .int .i64 n, .string (bs t)], 23⟩ (by repeat (first | exact List.Mem.head _ | apply List.Mem.tail)), HC.out.loc ⟨b2, [.int .i64 g, .int .i64 m, .string (bs u)], 23⟩ (by repeat (first | exact List.Mem.head _ | apply List.Mem.tail))⟩)) ?_; clear hK K'; (try simp only [Act.put, List.getElem_toArray, List.getElem_cons_zero, List.getElem_cons_succ, List.setIfInBounds_toArray, List.set_cons_zero, List.set_cons_succ]))); (refine inT_read (v := ?_) rfl (Or.inl ⟨by rfl, ?_⟩) ?_; rotate_left 1; (focus (intro W hSW; clear hSW; go_simp; (try (with_reducible rfl)))); (try simp only [Act.put, List.getElem_toArray, List.getElem_cons_zero, List.getElem_cons_succ, List.setIfInBounds_toArray, List.set_cons_zero, List.set_cons_succ])); (refine inT_read (v := ?_) rfl (Or.inl ⟨by rfl, ?_⟩) ?_; rotate_left 1; (focus (intro W hSW; clear hSW; go_simp; (try (with_reducible rfl)))); (try simp only [Act.put, List.getElem_toArray, List.getElem_cons_zero, List.getElem_cons_succ, List.setIfInBounds_toArray, List.set_cons_zero, List.set_cons_succ])); (refine inT_read (v := ?_) rfl (Or.inl ⟨by rfl, ?_⟩) ?_; rotate_left 1; (focus (intro W hSW; clear hSW; go_simp; (try (with_reducible rfl)))); (try simp only [Act.put, List.getElem_toArray, List.getElem_cons_zero, List.getElem_cons_succ, List.setIfInBounds_toArray, List.set_cons_zero, List.set_cons_succ])); (refine inT_act rfl rfl (fun K' hK => ?_)); (refine op_store_g _ _ _ rfl rfl rfl tyV.sz rfl HC.out (by repeat (first | exact List.Mem.head _ | apply List.Mem.tail)) (by exact PutS.all _ _ rfl) (by repeat (first | exact Upd.here _ _ _ | apply Upd.there)) ?_; intro w' hg hc; (replace HC := hide hc; clear hc); (refine hK _ _ (.inr (⟨HC.out.loc ⟨bS, [.string (bs [60]), .string (bs [61]), .string (bs [62]), .string (bs [60, 61]), .string (bs [35]), .string (bs [62, 61])], 9⟩ (by repeat (first | exact List.Mem.head _ | apply List.Mem.tail)), HC.out.loc ⟨b1, [.int .i64 f, .int .i64 n, .string (bs t)], 23⟩ (by repeat (first | exact List.Mem.head _ | apply List.Mem.tail)), HC.out.loc ⟨b2, [.int .i64 g, .int .i64 m, .string (bs u)], 23⟩ (by repeat (first | exact List.Mem.head _ | apply List.Mem.tail))⟩)) ?_; clear hK K'; (try simp only [Act.put, List.getElem_toArray, List.getElem_cons_zero, List.getElem_cons_succ, List.setIfInBounds_toArray, List.set_cons_zero, List.set_cons_succ]))); (refine inT_read (v := ?_) rfl (Or.inl ⟨by rfl, ?_⟩) ?_; rotate_left 1; (focus (intro W hSW; clear hSW; go_simp; (try (with_reducible rfl)))); (try simp only [Act.put, List.getElem_toArray, List.getElem_cons_zero, List.getElem_cons_succ, List.setIfInBounds_toArray, List.set_cons_zero, List.set_cons_succ])); (refine inT_end ?_))
        (go_wp2_with (first | (go_at_call 11; refine (wakes_at _).mono ?_; rintro e w2 ⟨rfl, hg⟩; (replace HC := hide (HC.out.g hg); clear hg))); go_ret; exact ⟨rfl, HC.out.grown⟩)
    · ((refine op_alloc 23 rfl zV HC.out ?_; intro b3 w' hn hg hc; (replace HC := hide hc; clear hc); (refine hK _ _ (.inr (⟨HC.out.loc ⟨bS, [.string (bs [60]), .string (bs [61]), .string (bs [62]), .string (bs [60, 61]), .string (bs [35]), .string (bs [62, 61])], 9⟩ (by repeat (first | exact List.Mem.head _ | apply List.Mem.tail)), HC.out.loc ⟨b1, [.int .i64 f, .int .i64 n, .string (bs t)], 23⟩ (by repeat (first | exact List.Mem.head _ | apply List.Mem.tail)), HC.out.loc ⟨b2, [.int .i64 g, .int .i64 m, .string (bs u)], 23⟩ (by repeat (first | exact List.Mem.head _ | apply List.Mem.tail))⟩)) ?_; clear hK K'; (try simp only [Act.put, List.getElem_toArray, List.getElem_cons_zero, List.getElem_cons_succ, List.setIfInBounds_toArray, List.set_cons_zero, List.set_cons_succ]))); (refine inT_act rfl rfl (fun K' hK => ?_)); (go_simp; refine (HTwo.out _).mono ?_; rintro e w1 ⟨rfl, hg⟩; (replace HC := hide (HC.out.g hg); clear hg); (refine hK _ _ (.inr (⟨HC.out.loc ⟨bS, [.string (bs [60]), .string (bs [61]), .string (bs [62]), .string (bs [60, 61]), .string (bs [35]), .string (bs [62, 61])], 9⟩ (by repeat (first | exact List.Mem.head _ | apply List.Mem.tail)), HC.out.loc ⟨b1, [.int .i64 f, .int .i64 n, .string (bs t)], 23⟩ (by repeat (first | exact List.Mem.head _ | apply List.Mem.tail)), HC.out.loc ⟨b2, [.int .i64 g, .int .i64 m, .string (bs u)], 23⟩ (by repeat (first | exact List.Mem.head _ | apply List.Mem.tail))⟩)) ?_; clear hK K'; (try simp only [Act.put, List.getElem_toArray, List.getElem_cons_zero, List.getElem_cons_succ, List.setIfInBounds_toArray, List.set_cons_zero, List.set_cons_succ]))); (refine inT_read (v := ?_) rfl (Or.inl ⟨by rfl, ?_⟩) ?_; rotate_left 1; (focus (intro W hSW; clear hSW; go_simp; (try (with_reducible rfl)))); (try simp only [Act.put, List.getElem_toArray, List.getElem_cons_zero, List.getElem_cons_succ, List.setIfInBounds_toArray, List.set_cons_zero, List.set_cons_succ])); (refine inT_read (v := ?_) rfl (Or.inl ⟨by rfl, ?_⟩) ?_; rotate_left 1; (focus (intro W hSW; clear hSW; go_simp; (try (with_reducible rfl)))); (try simp only [Act.put, List.getElem_toArray, List.getElem_cons_zero, List.getElem_cons_succ, List.setIfInBounds_toArray, List.set_cons_zero, List.set_cons_succ])); (refine inT_read (v := ?_) rfl (Or.inl ⟨by rfl, ?_⟩) ?_; rotate_left 1; (focus (intro W hSW; clear hSW; go_simp; (try (with_reducible rfl)))); (try simp only [Act.put, List.getElem_toArray, List.getElem_cons_zero, List.getElem_cons_succ, List.setIfInBounds_toArray, List.set_cons_zero, List.set_cons_succ])); (refine inT_act rfl rfl (fun K' hK => ?_)); (refine op_store_g _ _ _ rfl rfl rfl tyV.sz rfl HC.out (by repeat (first | exact List.Mem.head _ | apply List.Mem.tail)) (by exact PutS.all _ _ rfl) (by repeat (first | exact Upd.here _ _ _ | apply Upd.there)) ?_; intro w' hg hc; (replace HC := hide hc; clear hc); (refine hK _ _ (.inr (⟨HC.out.loc ⟨bS, [.string (bs [60]), .string (bs [61]), .string (bs [62]), .string (bs [60, 61]), .string (bs [35]), .string (bs [62, 61])], 9⟩ (by repeat (first | exact List.Mem.head _ | apply List.Mem.tail)), HC.out.loc ⟨b1, [.int .i64 f, .int .i64 n, .string (bs t)], 23⟩ (by repeat (first | exact List.Mem.head _ | apply List.Mem.tail)), HC.out.loc ⟨b2, [.int .i64 g, .int .i64 m, .string (bs u)], 23⟩ (by repeat (first | exact List.Mem.head _ | apply List.Mem.tail))⟩)) ?_; clear hK K'; (try simp only [Act.put, List.getElem_toArray, List.getElem_cons_zero, List.getElem_cons_succ, List.setIfInBounds_toArray, List.set_cons_zero, List.set_cons_succ]))); (refine inT_read (v := ?_) rfl (Or.inl ⟨by rfl, ?_⟩) ?_; rotate_left 1; (focus (intro W hSW; clear hSW; go_simp; (try (with_reducible rfl)))); (try simp only [Act.put, List.getElem_toArray, List.getElem_cons_zero, List.getElem_cons_succ, List.setIfInBounds_toArray, List.set_cons_zero, List.set_cons_succ])); (refine inT_end ?_))
      go_wp2
      (replace HC := hide (HC.out.g (d1_g _)); refine wp_region_inT (fun W => W.heap[bS]? = some (.cells ([.string (bs [60]), .string (bs [61]), .string (bs [62]), .string (bs [60, 61]), .string (bs [35]), .string (bs [62, 61])] : List Value).toArray 9 (0, 0)) ∧ W.heap[b1]? = some (.cells ([.int .i64 f, .int .i64 n, .string (bs t)] : List Value).toArray 23 (0, 0)) ∧ W.heap[b2]? = some (.cells ([.int .i64 g, .int .i64 m, .string (bs u)] : List Value).toArray 23 (0, 0))) 99 (.rd 0 (.rd 1 (.rd 2 (.rd 3 (.rd 4 (.rd 5 (.fork 6 (.rd 7 (.rd 8 (.rd 9 (.act 10 (.act 11 (.rd 12 .nil)))))) 10 (.act 6 (.rd 7 (.rd 8 (.rd 9 (.act 11 (.rd 12 .nil)))))))))))))  (by kernel_rfl) (by kernel_rfl) (by kernel_rfl) (by kernel_rfl) (fun _ _ d _ _ h => by cases d <;> exact h) (⟨HC.out.loc ⟨bS, [.string (bs [60]), .string (bs [61]), .string (bs [62]), .string (bs [60, 61]), .string (bs [35]), .string (bs [62, 61])], 9⟩ (by repeat (first | exact List.Mem.head _ | apply List.Mem.tail)), HC.out.loc ⟨b1, [.int .i64 f, .int .i64 n, .string (bs t)], 23⟩ (by repeat (first | exact List.Mem.head _ | apply List.Mem.tail)), HC.out.loc ⟨b2, [.int .i64 g, .int .i64 m, .string (bs u)], 23⟩ (by repeat (first | exact List.Mem.head _ | apply List.Mem.tail))⟩) ?_; (refine inT_read (v := ?_) rfl (Or.inl ⟨by rfl, ?_⟩) ?_; rotate_left 1; (focus (intro W hSW; clear hSW; go_simp; (try (with_reducible rfl)))); (try simp only [Act.put, List.getElem_toArray, List.getElem_cons_zero, List.getElem_cons_succ, List.setIfInBounds_toArray, List.set_cons_zero, List.set_cons_succ])); (refine inT_read (v := ?_) rfl (Or.inl ⟨by rfl, ?_⟩) ?_; rotate_left 1; (focus (intro W hSW; clear hSW; go_simp; (try (with_reducible rfl)))); (try simp only [Act.put, List.getElem_toArray, List.getElem_cons_zero, List.getElem_cons_succ, List.setIfInBounds_toArray, List.set_cons_zero, List.set_cons_succ])); (refine inT_read (v := ?_) rfl (Or.inl ⟨by rfl, ?_⟩) ?_; rotate_left 1; (focus (intro W hSW; clear hSW; go_simp; (try (with_reducible rfl)))); (try simp only [Act.put, List.getElem_toArray, List.getElem_cons_zero, List.getElem_cons_succ, List.setIfInBounds_toArray, List.set_cons_zero, List.set_cons_succ])); (refine inT_read rfl (yl_cell tcT rfl rfl rfl (fun W hW => cell_of_row _ _ _ _ _ _ hW.1)) ?_; (try simp only [Act.put, List.getElem_toArray, List.getElem_cons_zero, List.getElem_cons_succ, List.setIfInBounds_toArray, List.set_cons_zero, List.set_cons_succ])); (refine inT_read rfl (yl_load rfl rfl rfl (fun W hW => load_of hW.2.1)) ?_; (try simp only [Act.put, List.getElem_toArray, List.getElem_cons_zero, List.getElem_cons_succ, List.setIfInBounds_toArray, List.set_cons_zero, List.set_cons_succ])); (refine inT_read rfl (yl_load rfl rfl rfl (fun W hW => load_of hW.2.2)) ?_; (try simp only [Act.put, List.getElem_toArray, List.getElem_cons_zero, List.getElem_cons_succ, List.setIfInBounds_toArray, List.set_cons_zero, List.set_cons_succ])))
      (refine inT_fork rfl rfl rfl rfl (fun K' hK => ?_) (fun K' hK => ?_))
      · ((go_simp; refine (HRTwo.out _).mono ?_; rintro e w1 ⟨rfl, hg⟩; (replace HC := hide (HC.out.g hg); clear hg); (refine hK _ _ (.inr (⟨HC.out.loc ⟨bS, [.string (bs [60]), .string (bs [61]), .string (bs [62]), .string (bs [60, 61]), .string (bs [35]), .string (bs [62, 61])], 9⟩ (by repeat (first | exact List.Mem.head _ | apply List.Mem.tail)), HC.out.loc ⟨b1, [.int .i64 f, .int .i64 n, .string (bs t)], 23⟩ (by repeat (first | exact List.Mem.head _ | apply List.Mem.tail)), HC.out.loc ⟨b2, [.int .i64 g, .int .i64 m, .string (bs u)], 23⟩ (by repeat (first | exact List.Mem.head _ | apply List.Mem.tail))⟩)) ?_; clear hK K'; (try simp only [Act.put, List.getElem_toArray, List.getElem_cons_zero, List.getElem_cons_succ, List.setIfInBounds_toArray, List.set_cons_zero, List.set_cons_succ]))); (refine inT_read (v := ?_) rfl (Or.inl ⟨by rfl, ?_⟩) ?_; rotate_left 1; (focus (intro W hSW; clear hSW; go_simp; (try (with_reducible rfl)))); (try simp only [Act.put, List.getElem_toArray, List.getElem_cons_zero, List.getElem_cons_succ, List.setIfInBounds_toArray, List.set_cons_zero, List.set_cons_succ])); (refine inT_read (v := ?_) rfl (Or.inl ⟨by rfl, ?_⟩) ?_; rotate_left 1; (focus (intro W hSW; clear hSW; go_simp; (try (with_reducible rfl)))); (try simp only [Act.put, List.getElem_toArray, List.getElem_cons_zero, List.getElem_cons_succ, List.setIfInBounds_toArray, List.set_cons_zero, List.set_cons_succ])); (refine inT_read (v := ?_) rfl (Or.inl ⟨by rfl, ?_⟩) ?_; rotate_left 1; (focus (intro W hSW; clear hSW; go_simp; (try (with_reducible rfl)))); (try simp only [Act.put, List.getElem_toArray, List.getElem_cons_zero, List.getElem_cons_succ, List.setIfInBounds_toArray, List.set_cons_zero, List.set_cons_succ])); (refine inT_act rfl rfl (fun K' hK => ?_)); (refine op_alloc 23 rfl zV HC.out ?_; intro b4 w' hn hg hc; (replace HC := hide hc; clear hc); (refine hK _ _ (.inr (⟨HC.out.loc ⟨bS, [.string (bs [60]), .string (bs [61]), .string (bs [62]), .string (bs [60, 61]), .string (bs [35]), .string (bs [62, 61])], 9⟩ (by repeat (first | exact List.Mem.head _ | apply List.Mem.tail)), HC.out.loc ⟨b1, [.int .i64 f, .int .i64 n, .string (bs t)], 23⟩ (by repeat (first | exact List.Mem.head _ | apply List.Mem.tail)), HC.out.loc ⟨b2, [.int .i64 g, .int .i64 m, .string (bs u)], 23⟩ (by repeat (first | exact List.Mem.head _ | apply List.Mem.tail))⟩)) ?_; clear hK K'; (try simp only [Act.put, List.getElem_toArray, List.getElem_cons_zero, List.getElem_cons_succ, List.setIfInBounds_toArray, List.set_cons_zero, List.set_cons_succ]))); (refine inT_act rfl rfl (fun K' hK => ?_)); (refine op_store_g _ _ _ rfl rfl rfl tyV.sz rfl HC.out (by repeat (first | exact List.Mem.head _ | apply List.Mem.tail)) (by exact PutS.all _ _ rfl) (by repeat (first | exact Upd.here _ _ _ | apply Upd.there)) ?_; intro w' hg hc; (replace HC := hide hc; clear hc); (refine hK _ _ (.inr (⟨HC.out.loc ⟨bS, [.string (bs [60]), .string (bs [61]), .string (bs [62]), .string (bs [60, 61]), .string (bs [35]), .string (bs [62, 61])], 9⟩ (by repeat (first | exact List.Mem.head _ | apply List.Mem.tail)), HC.out.loc ⟨b1, [.int .i64 f, .int .i64 n, .string (bs t)], 23⟩ (by repeat (first | exact List.Mem.head _ | apply List.Mem.tail)), HC.out.loc ⟨b2, [.int .i64 g, .int .i64 m, .string (bs u)], 23⟩ (by repeat (first | exact List.Mem.head _ | apply List.Mem.tail))⟩)) ?_; clear hK K'; (try simp only [Act.put, List.getElem_toArray, List.getElem_cons_zero, List.getElem_cons_succ, List.setIfInBounds_toArray, List.set_cons_zero, List.set_cons_succ]))); (refine inT_read (v := ?_) rfl (Or.inl ⟨by rfl, ?_⟩) ?_; rotate_left 1; (focus (intro W hSW; clear hSW; go_simp; (try (with_reducible rfl)))); (try simp only [Act.put, List.getElem_toArray, List.getElem_cons_zero, List.getElem_cons_succ, List.setIfInBounds_toArray, List.set_cons_zero, List.set_cons_succ])); (refine inT_end ?_))
        (go_wp2_with (first | (go_at_call 11; refine (wakes_at _).mono ?_; rintro e w2 ⟨rfl, hg⟩; (replace HC := hide (HC.out.g hg); clear hg))); go_ret; exact ⟨rfl, HC.out.grown⟩)
      · ((refine op_alloc 23 rfl zV HC.out ?_; intro b4 w' hn hg hc; (replace HC := hide hc; clear hc); (refine hK _ _ (.inr (⟨HC.out.loc ⟨bS, [.string (bs [60]), .string (bs [61]), .string (bs [62]), .string (bs [60, 61]), .string (bs [35]), .string (bs [62, 61])], 9⟩ (by repeat (first | exact List.Mem.head _ | apply List.Mem.tail)), HC.out.loc ⟨b1, [.int .i64 f, .int .i64 n, .string (bs t)], 23⟩ (by repeat (first | exact List.Mem.head _ | apply List.Mem.tail)), HC.out.loc ⟨b2, [.int .i64 g, .int .i64 m, .string (bs u)], 23⟩ (by repeat (first | exact List.Mem.head _ | apply List.Mem.tail))⟩)) ?_; clear hK K'; (try simp only [Act.put, List.getElem_toArray, List.getElem_cons_zero, List.getElem_cons_succ, List.setIfInBounds_toArray, List.set_cons_zero, List.set_cons_succ]))); (refine inT_act rfl rfl (fun K' hK => ?_)); (go_simp; refine (HRTwo.out _).mono ?_; rintro e w1 ⟨rfl, hg⟩; (replace HC := hide (HC.out.g hg); clear hg); (refine hK _ _ (.inr (⟨HC.out.loc ⟨bS, [.string (bs [60]), .string (bs [61]), .string (bs [62]), .string (bs [60, 61]), .string (bs [35]), .string (bs [62, 61])], 9⟩ (by repeat (first | exact List.Mem.head _ | apply List.Mem.tail)), HC.out.loc ⟨b1, [.int .i64 f, .int .i64 n, .string (bs t)], 23⟩ (by repeat (first | exact List.Mem.head _ | apply List.Mem.tail)), HC.out.loc ⟨b2, [.int .i64 g, .int .i64 m, .string (bs u)], 23⟩ (by repeat (first | exact List.Mem.head _ | apply List.Mem.tail))⟩)) ?_; clear hK K'; (try simp only [Act.put, List.getElem_toArray, List.getElem_cons_zero, List.getElem_cons_succ, List.setIfInBounds_toArray, List.set_cons_zero, List.set_cons_succ]))); (refine inT_read (v := ?_) rfl (Or.inl ⟨by rfl, ?_⟩) ?_; rotate_left 1; (focus (intro W hSW; clear hSW; go_simp; (try (with_reducible rfl)))); (try simp only [Act.put, List.getElem_toArray, List.getElem_cons_zero, List.getElem_cons_succ, List.setIfInBounds_toArray, List.set_cons_zero, List.set_cons_succ])); (refine inT_read (v := ?_) rfl (Or.inl ⟨by rfl, ?_⟩) ?_; rotate_left 1; (focus (intro W hSW; clear hSW; go_simp; (try (with_reducible rfl)))); (try simp only [Act.put, List.getElem_toArray, List.getElem_cons_zero, List.getElem_cons_succ, List.setIfInBounds_toArray, List.set_cons_zero, List.set_cons_succ])); (refine inT_read (v := ?_) rfl (Or.inl ⟨by rfl, ?_⟩) ?_; rotate_left 1; (focus (intro W hSW; clear hSW; go_simp; (try (with_reducible rfl)))); (try simp only [Act.put, List.getElem_toArray, List.getElem_cons_zero, List.getElem_cons_succ, List.setIfInBounds_toArray, List.set_cons_zero, List.set_cons_succ])); (refine inT_act rfl rfl (fun K' hK => ?_)); (refine op_store_g _ _ _ rfl rfl rfl tyV.sz rfl HC.out (by repeat (first | exact List.Mem.head _ | apply List.Mem.tail)) (by exact PutS.all _ _ rfl) (by repeat (first | exact Upd.here _ _ _ | apply Upd.there)) ?_; intro w' hg hc; (replace HC := hide hc; clear hc); (refine hK _ _ (.inr (⟨HC.out.loc ⟨bS, [.string (bs [60]), .string (bs [61]), .string (bs [62]), .string (bs [60, 61]), .string (bs [35]), .string (bs [62, 61])], 9⟩ (by repeat (first | exact List.Mem.head _ | apply List.Mem.tail)), HC.out.loc ⟨b1, [.int .i64 f, .int .i64 n, .string (bs t)], 23⟩ (by repeat (first | exact List.Mem.head _ | apply List.Mem.tail)), HC.out.loc ⟨b2, [.int .i64 g, .int .i64 m, .string (bs u)], 23⟩ (by repeat (first | exact List.Mem.head _ | apply List.Mem.tail))⟩)) ?_; clear hK K'; (try simp only [Act.put, List.getElem_toArray, List.getElem_cons_zero, List.getElem_cons_succ, List.setIfInBounds_toArray, List.set_cons_zero, List.set_cons_succ]))); (refine inT_read (v := ?_) rfl (Or.inl ⟨by rfl, ?_⟩) ?_; rotate_left 1; (focus (intro W hSW; clear hSW; go_simp; (try (with_reducible rfl)))); (try simp only [Act.put, List.getElem_toArray, List.getElem_cons_zero, List.getElem_cons_succ, List.setIfInBounds_toArray, List.set_cons_zero, List.set_cons_succ])); (refine inT_end ?_))
        (go_wp2_with (first | (go_at_call 11; refine (wakes_at _).mono ?_; rintro e w2 ⟨rfl, hg⟩; (replace HC := hide (HC.out.g hg); clear hg))); go_ret; exact ⟨rfl, HC.out.grown⟩)
end Go.Proofs.Ytgdpcdpkaaefbaa.Cn
namespace Go.Proofs.Ytgdpcdpkaaefbaa.Cn
open Go.RowKit hiding Hid
open Go.Maps Go.Proofs.Ytgdpcdpkaaefbaa.Tx Go.Proofs.Ytgdpcdpkaaefbaa.Lx Go.Proofs.Ytgdpcdpkaaefbaa.Mp Go.Proofs.Ytgdpcdpkaaefbaa.Bits Go.Proofs.Ytgdpcdpkaaefbaa.Tr Go.Proofs.Ytgdpcdpkaaefbaa.Bm
set_option linter.unusedVariables false
set_option linter.unusedSimpArgs false
set_option maxRecDepth 100000

theorem apI : Try.prog.underlying 52 = some (.slice 3) ∧ (Try.prog.info? 3).map (fun i => (i.zero.map (·.cells.size), i.size, i.bytes)) = some (some 1, 1, 8) := ⟨by kernel_rfl, by kernel_rfl⟩
theorem two_six {s : List UInt8} {a b : Vl} (hs : s.length ≤ 100) (ha : a.t.length ≤ 9223372036854775807) (hb : b.t.length ≤ 9223372036854775807) {n : Int} (h : twoP s a b = (⟨2, n, []⟩, 0)) : ∀ W, Calls Try.prog 17 #[.string (bs s), vV a, vV b] W (Told W (.tuple #[.agg #[.int .i64 2, .int .i64 n, .string (bs [])], .int .i64 0])) := fun W => by
  have := two_at s (Nat.le_trans hs (by unfold maxLen; decide)) a b ha hb W
  rw [h] at this
  exact this
set_option maxHeartbeats 12800000 in
theorem order_ok (a b : Vl) (ha : a.t.length ≤ maxLen) (hb : b.t.length ≤ maxLen) (hL : [a, b].any bigV = false) (o : Int) (hO : ∀ s ∈ sixS, twoP s a b = (⟨2, sixN o s, []⟩, 0)) (w : World) : Calls Try.prog 9 #[vV a, vV b] w (Told w (.bool true)) := by
  have ha' : a.t.length ≤ 9223372036854775807 := Nat.le_trans ha (by unfold maxLen; decide)
  have hb' : b.t.length ≤ 9223372036854775807 := Nat.le_trans hb (by unfold maxLen; decide)
  have HC := hide (Cx.start w (fun _ => False))
  obtain ⟨n0, e0⟩ : ∃ x, sixN o [60] = x := ⟨_, rfl⟩
  have H0 := two_six (s := [60]) (by decide) ha' hb' (n := n0) (by rw [hO [60] (by decide), e0])
  obtain ⟨n1, e1⟩ : ∃ x, sixN o [61] = x := ⟨_, rfl⟩
  have H1 := two_six (s := [61]) (by decide) ha' hb' (n := n1) (by rw [hO [61] (by decide), e1])
  obtain ⟨n2, e2⟩ : ∃ x, sixN o [62] = x := ⟨_, rfl⟩
  have H2 := two_six (s := [62]) (by decide) ha' hb' (n := n2) (by rw [hO [62] (by decide), e2])
  obtain ⟨n3, e3⟩ : ∃ x, sixN o [60, 61] = x := ⟨_, rfl⟩
  have H3 := two_six (s := [60, 61]) (by decide) ha' hb' (n := n3) (by rw [hO [60, 61] (by decide), e3])
  obtain ⟨n4, e4⟩ : ∃ x, sixN o [35] = x := ⟨_, rfl⟩
  have H4 := two_six (s := [35]) (by decide) ha' hb' (n := n4) (by rw [hO [35] (by decide), e4])
  obtain ⟨n5, e5⟩ : ∃ x, sixN o [62, 61] = x := ⟨_, rfl⟩
  have H5 := two_six (s := [62, 61]) (by decide) ha' hb' (n := n5) (by rw [hO [62, 61] (by decide), e5])
  have HQ : Hid ((n0 = 1 ∧ n1 = 0 ∧ n2 = 0 ∧ n3 = 1 ∧ n4 = 1 ∧ n5 = 0) ∨ (n0 = 0 ∧ n1 = 1 ∧ n2 = 0 ∧ n3 = 1 ∧ n4 = 0 ∧ n5 = 1) ∨ (n0 = 0 ∧ n1 = 0 ∧ n2 = 1 ∧ n3 = 0 ∧ n4 = 1 ∧ n5 = 1)) := hide (by
    have h := six_is o
    simp only [sixS, List.map_cons, List.map_nil, e0, e1, e2, e3, e4, e5, List.cons.injEq, and_true] at h
    exact h.imp (·.2) (fun h => h.imp (·.2) (·.2)))
  have HLG := hide (large_as (l := [a, b]) (by simp) (by intro v hv; simp at hv; rcases hv with rfl | rfl <;> assumption) hL)
  clear e0 e1 e2 e3 e4 e5
  obtain ⟨f, n, t⟩ := a
  obtain ⟨g, m, u⟩ := b
  unfold vV at *
  dsimp only at H0 H1 H2 H3 H4 H5
  replace H0 := hide H0
  replace H1 := hide H1
  replace H2 := hide H2
  replace H3 := hide H3
  replace H4 := hide H4
  replace H5 := hide H5
  clear hL hO ha ha' hb hb' o
  have A1 := True.intro
  go_enter Try.func9, Try.ntmps9
  go_wp2_with (first | (clear A1; (refine at_box 23 rfl ?_; refine wl_box rfl 23 _ rfl _ rfl HC.out ?_; intro b1 w' hn hc; (replace HC := hide hc; clear hc))) | (refine at_box 23 rfl ?_; refine wl_box rfl 23 _ rfl _ rfl HC.out ?_; intro b2 w' hn hc; (replace HC := hide hc; clear hc)) | (refine at_load 23 rfl ?_; refine wl_load_s rfl 23 _ rfl tyV rfl HC.out (by repeat (first | exact List.Mem.head _ | apply List.Mem.tail)) (GetS.all _) rfl ?_) | (refine at_bs 37 rfl ?_; refine wl_bl rfl 37 _ _ rfl 23 [.int .i64 f, .int .i64 n, .string (bs t), .int .i64 g, .int .i64 m, .string (bs u)] HC.out (by kernel_rfl) ?_; intro bl w' hn hc; (replace HC := hide hc; clear hc)) | (go_at_call 10; refine (HLG.out _ _ _ (cls_of HC.out (by repeat (first | exact List.Mem.head _ | apply List.Mem.tail)))).mono ?_; rintro e w2 ⟨rfl, rfl⟩) | (refine at_bs 51 rfl ?_; refine wl_bl rfl 51 _ _ rfl 9 [.string (bs [60]), .string (bs [61]), .string (bs [62]), .string (bs [60, 61]), .string (bs [35]), .string (bs [62, 61])] HC.out (by kernel_rfl) ?_; intro bS w' hn hc; (replace HC := hide hc; clear hc)))
  (try simp only [Act.put, List.getElem_toArray, List.getElem_cons_zero, List.getElem_cons_succ, List.setIfInBounds_toArray, List.set_cons_zero, List.set_cons_succ])
  go_loopw [6, 7] (fun sv iv W => ∃ (i : Nat) (k : Int) (od : Option Addr) (cp : Nat), sv = .slice od i cp ∧ iv = .int .i64 k ∧ k = i ∧ i ≤ 6 ∧ Hid (Cx w (fun _ => False) none [⟨bS, [.string (bs [60]), .string (bs [61]), .string (bs [62]), .string (bs [60, 61]), .string (bs [35]), .string (bs [62, 61])], 9⟩, ⟨bl, [.int .i64 f, .int .i64 n, .string (bs t), .int .i64 g, .int .i64 m, .string (bs u)], 23⟩, ⟨b2, [.int .i64 g, .int .i64 m, .string (bs u)], 23⟩, ⟨b1, [.int .i64 f, .int .i64 n, .string (bs t)], 23⟩] [⟨.slice od i cp, 3, 1, i, List.take i [.int .i64 n0, .int .i64 n1, .int .i64 n2, .int .i64 n3, .int .i64 n4, .int .i64 n5]⟩] [] W)) (fun _ iv _ => 6 - (intOf iv).toNat)
  case atStart => exact ⟨0, 0, none, 0, rfl, rfl, rfl, by decide, hide (HC.out.row_nil 3 1)⟩
  case round =>
    clear HC
    obtain ⟨i, k, od, cp, rfl, rfl, hk, hi, HC⟩ := hrel
    obtain hj | hj | hj | hj | hj | hj | hj : i = 0 ∨ i = 1 ∨ i = 2 ∨ i = 3 ∨ i = 4 ∨ i = 5 ∨ i = 6 := by omega
    · subst hj
      obtain rfl : k = 0 := hk
      go_wp2
      (replace HC := hide (HC.out.g (d1_g _)); refine wp_region_inT (fun W => W.heap[bS]? = some (.cells ([.string (bs [60]), .string (bs [61]), .string (bs [62]), .string (bs [60, 61]), .string (bs [35]), .string (bs [62, 61])] : List Value).toArray 9 (0, 0)) ∧ W.heap[b1]? = some (.cells ([.int .i64 f, .int .i64 n, .string (bs t)] : List Value).toArray 23 (0, 0)) ∧ W.heap[b2]? = some (.cells ([.int .i64 g, .int .i64 m, .string (bs u)] : List Value).toArray 23 (0, 0))) 99 (.rd 0 (.rd 1 (.rd 2 (.rd 3 (.rd 4 (.rd 5 (.fork 6 (.rd 7 (.rd 8 (.rd 9 (.act 10 (.act 11 (.rd 12 .nil)))))) 10 (.act 6 (.rd 7 (.rd 8 (.rd 9 (.act 11 (.rd 12 .nil)))))))))))))  (by kernel_rfl) (by kernel_rfl) (by kernel_rfl) (by kernel_rfl) (fun _ _ d _ _ h => by cases d <;> exact h) (⟨HC.out.loc ⟨bS, [.string (bs [60]), .string (bs [61]), .string (bs [62]), .string (bs [60, 61]), .string (bs [35]), .string (bs [62, 61])], 9⟩ (by repeat (first | exact List.Mem.head _ | apply List.Mem.tail)), HC.out.loc ⟨b1, [.int .i64 f, .int .i64 n, .string (bs t)], 23⟩ (by repeat (first | exact List.Mem.head _ | apply List.Mem.tail)), HC.out.loc ⟨b2, [.int .i64 g, .int .i64 m, .string (bs u)], 23⟩ (by repeat (first | exact List.Mem.head _ | apply List.Mem.tail))⟩) ?_; (refine inT_read (v := ?_) rfl (Or.inl ⟨by rfl, ?_⟩) ?_; rotate_left 1; (focus (intro W hSW; clear hSW; go_simp; (try (with_reducible rfl)))); (try simp only [Act.put, List.getElem_toArray, List.getElem_cons_zero, List.getElem_cons_succ, List.setIfInBounds_toArray, List.set_cons_zero, List.set_cons_succ])); (refine inT_read (v := ?_) rfl (Or.inl ⟨by rfl, ?_⟩) ?_; rotate_left 1; (focus (intro W hSW; clear hSW; go_simp; (try (with_reducible rfl)))); (try simp only [Act.put, List.getElem_toArray, List.getElem_cons_zero, List.getElem_cons_succ, List.setIfInBounds_toArray, List.set_cons_zero, List.set_cons_succ])); (refine inT_read (v := ?_) rfl (Or.inl ⟨by rfl, ?_⟩) ?_; rotate_left 1; (focus (intro W hSW; clear hSW; go_simp; (try (with_reducible rfl)))); (try simp only [Act.put, List.getElem_toArray, List.getElem_cons_zero, List.getElem_cons_succ, List.setIfInBounds_toArray, List.set_cons_zero, List.set_cons_succ])); (refine inT_read rfl (yl_cell tcT rfl rfl rfl (fun W hW => cell_of_row _ _ _ _ _ _ hW.1)) ?_; (try simp only [Act.put, List.getElem_toArray, List.getElem_cons_zero, List.getElem_cons_succ, List.setIfInBounds_toArray, List.set_cons_zero, List.set_cons_succ])); (refine inT_read rfl (yl_load rfl rfl rfl (fun W hW => load_of hW.2.1)) ?_; (try simp only [Act.put, List.getElem_toArray, List.getElem_cons_zero, List.getElem_cons_succ, List.setIfInBounds_toArray, List.set_cons_zero, List.set_cons_succ])); (refine inT_read rfl (yl_load rfl rfl rfl (fun W hW => load_of hW.2.2)) ?_; (try simp only [Act.put, List.getElem_toArray, List.getElem_cons_zero, List.getElem_cons_succ, List.setIfInBounds_toArray, List.set_cons_zero, List.set_cons_succ])))
      (refine inT_fork rfl rfl rfl rfl (fun K' hK => ?_) (fun K' hK => ?_))
      · ((go_simp; refine (H0.out _).mono ?_; rintro e w1 ⟨rfl, hg⟩; (replace HC := hide (HC.out.g hg); clear hg); (refine hK _ _ (.inr (⟨HC.out.loc ⟨bS, [.string (bs [60]), .string (bs [61]), .string (bs [62]), .string (bs [60, 61]), .string (bs [35]), .string (bs [62, 61])], 9⟩ (by repeat (first | exact List.Mem.head _ | apply List.Mem.tail)), HC.out.loc ⟨b1, [.int .i64 f, .int .i64 n, .string (bs t)], 23⟩ (by repeat (first | exact List.Mem.head _ | apply List.Mem.tail)), HC.out.loc ⟨b2, [.int .i64 g, .int .i64 m, .string (bs u)], 23⟩ (by repeat (first | exact List.Mem.head _ | apply List.Mem.tail))⟩)) ?_; clear hK K'; (try simp only [Act.put, List.getElem_toArray, List.getElem_cons_zero, List.getElem_cons_succ, List.setIfInBounds_toArray, List.set_cons_zero, List.set_cons_succ]))); (refine inT_read (v := ?_) rfl (Or.inl ⟨by rfl, ?_⟩) ?_; rotate_left 1; (focus (intro W hSW; clear hSW; go_simp; (try (with_reducible rfl)))); (try simp only [Act.put, List.getElem_toArray, List.getElem_cons_zero, List.getElem_cons_succ, List.setIfInBounds_toArray, List.set_cons_zero, List.set_cons_succ])); (refine inT_read (v := ?_) rfl (Or.inl ⟨by rfl, ?_⟩) ?_; rotate_left 1; (focus (intro W hSW; clear hSW; go_simp; (try (with_reducible rfl)))); (try simp only [Act.put, List.getElem_toArray, List.getElem_cons_zero, List.getElem_cons_succ, List.setIfInBounds_toArray, List.set_cons_zero, List.set_cons_succ])); (refine inT_read (v := ?_) rfl (Or.inl ⟨by rfl, ?_⟩) ?_; rotate_left 1; (focus (intro W hSW; clear hSW; go_simp; (try (with_reducible rfl)))); (try simp only [Act.put, List.getElem_toArray, List.getElem_cons_zero, List.getElem_cons_succ, List.setIfInBounds_toArray, List.set_cons_zero, List.set_cons_succ])); (refine inT_act rfl rfl (fun K' hK => ?_)); (refine op_alloc 23 rfl zV HC.out ?_; intro b3 w' hn hg hc; (replace HC := hide hc; clear hc); (refine hK _ _ (.inr (⟨HC.out.loc ⟨bS, [.string (bs [60]), .string (bs [61]), .string (bs [62]), .string (bs [60, 61]), .string (bs [35]), .string (bs [62, 61])], 9⟩ (by repeat (first | exact List.Mem.head _ | apply List.Mem.tail)), HC.out.loc ⟨b1, [.int .i64 f, .int .i64 n, .string (bs t)], 23⟩ (by repeat (first | exact List.Mem.head _ | apply List.Mem.tail)), HC.out.loc ⟨b2, [.int .i64 g, .int .i64 m, .string (bs u)], 23⟩ (by repeat (first | exact List.Mem.head _ | apply List.Mem.tail))⟩)) ?_; clear hK K'; (try simp only [Act.put, List.getElem_toArray, List.getElem_cons_zero, List.getElem_cons_succ, List.setIfInBounds_toArray, List.set_cons_zero, List.set_cons_succ]))); (refine inT_act rfl rfl (fun K' hK => ?_)); (refine op_store_g _ _ _ rfl rfl rfl tyV.sz rfl HC.out (by repeat (first | exact List.Mem.head _ | apply List.Mem.tail)) (by exact PutS.all _ _ rfl) (by repeat (first | exact Upd.here _ _ _ | apply Upd.there)) ?_; intro w' hg hc; (replace HC := hide hc; clear hc); (refine hK _ _ (.inr (⟨HC.out.loc ⟨bS, [.string (bs [60]), .string (bs [61]), .string (bs [62]), .string (bs [60, 61]), .string (bs [35]), .string (bs [62, 61])], 9⟩ (by repeat (first | exact List.Mem.head _ | apply List.Mem.tail)), HC.out.loc ⟨b1, [.int .i64 f, .int .i64 n, .string (bs t)], 23⟩ (by repeat (first | exact List.Mem.head _ | apply List.Mem.tail)), HC.out.loc ⟨b2, [.int .i64 g, .int .i64 m, .string (bs u)], 23⟩ (by repeat (first | exact List.Mem.head _ | apply List.Mem.tail))⟩)) ?_; clear hK K'; (try simp only [Act.put, List.getElem_toArray, List.getElem_cons_zero, List.getElem_cons_succ, List.setIfInBounds_toArray, List.set_cons_zero, List.set_cons_succ]))); (refine inT_read (v := ?_) rfl (Or.inl ⟨by rfl, ?_⟩) ?_; rotate_left 1; (focus (intro W hSW; clear hSW; go_simp; (try (with_reducible rfl)))); (try simp only [Act.put, List.getElem_toArray, List.getElem_cons_zero, List.getElem_cons_succ, List.setIfInBounds_toArray, List.set_cons_zero, List.set_cons_succ])); (refine inT_end ?_))
        (go_wp2_with (first | (refine at_load 3 rfl ?_; refine wl_load_c rfl 3 _ rfl tcI rfl HC.out (by repeat (first | exact List.Mem.head _ | apply List.Mem.tail)) (by repeat (first | exact GetS.cons _ (GetS.nil _) | apply GetS.skip)) ?_) | (refine at_bs 52 rfl ?_; refine wl_bl rfl 52 _ _ rfl 3 [.int .i64 n0] HC.out (by kernel_rfl) ?_; intro bz w' hn hc; (replace HC := hide hc; clear hc)) | (refine wl_ap rfl _ _ rfl apI.1 apI.2 (by decide) (by decide) rfl rfl HC.out rfl rfl (by decide) ?_; intro d c2 w' hc; (replace HC := hide hc; clear hc))))
        exact ⟨⟨1, 1, _, _, rfl, by first | rfl | go_num, rfl, by decide, hide HC.out.drop⟩, by first | decide | (simp [intOf])⟩
      · ((refine op_alloc 23 rfl zV HC.out ?_; intro b3 w' hn hg hc; (replace HC := hide hc; clear hc); (refine hK _ _ (.inr (⟨HC.out.loc ⟨bS, [.string (bs [60]), .string (bs [61]), .string (bs [62]), .string (bs [60, 61]), .string (bs [35]), .string (bs [62, 61])], 9⟩ (by repeat (first | exact List.Mem.head _ | apply List.Mem.tail)), HC.out.loc ⟨b1, [.int .i64 f, .int .i64 n, .string (bs t)], 23⟩ (by repeat (first | exact List.Mem.head _ | apply List.Mem.tail)), HC.out.loc ⟨b2, [.int .i64 g, .int .i64 m, .string (bs u)], 23⟩ (by repeat (first | exact List.Mem.head _ | apply List.Mem.tail))⟩)) ?_; clear hK K'; (try simp only [Act.put, List.getElem_toArray, List.getElem_cons_zero, List.getElem_cons_succ, List.setIfInBounds_toArray, List.set_cons_zero, List.set_cons_succ]))); (refine inT_act rfl rfl (fun K' hK => ?_)); (go_simp; refine (H0.out _).mono ?_; rintro e w1 ⟨rfl, hg⟩; (replace HC := hide (HC.out.g hg); clear hg); (refine hK _ _ (.inr (⟨HC.out.loc ⟨bS, [.string (bs [60]), .string (bs [61]), .string (bs [62]), .string (bs [60, 61]), .string (bs [35]), .string (bs [62, 61])], 9⟩ (by repeat (first | exact List.Mem.head _ | apply List.Mem.tail)), HC.out.loc ⟨b1, [.int .i64 f, .int .i64 n, .string (bs t)], 23⟩ (by repeat (first | exact List.Mem.head _ | apply List.Mem.tail)), HC.out.loc ⟨b2, [.int .i64 g, .int .i64 m, .string (bs u)], 23⟩ (by repeat (first | exact List.Mem.head _ | apply List.Mem.tail))⟩)) ?_; clear hK K'; (try simp only [Act.put, List.getElem_toArray, List.getElem_cons_zero, List.getElem_cons_succ, List.setIfInBounds_toArray, List.set_cons_zero, List.set_cons_succ]))); (refine inT_read (v := ?_) rfl (Or.inl ⟨by rfl, ?_⟩) ?_; rotate_left 1; (focus (intro W hSW; clear hSW; go_simp; (try (with_reducible rfl)))); (try simp only [Act.put, List.getElem_toArray, List.getElem_cons_zero, List.getElem_cons_succ, List.setIfInBounds_toArray, List.set_cons_zero, List.set_cons_succ])); (refine inT_read (v := ?_) rfl (Or.inl ⟨by rfl, ?_⟩) ?_; rotate_left 1; (focus (intro W hSW; clear hSW; go_simp; (try (with_reducible rfl)))); (try simp only [Act.put, List.getElem_toArray, List.getElem_cons_zero, List.getElem_cons_succ, List.setIfInBounds_toArray, List.set_cons_zero, List.set_cons_succ])); (refine inT_read (v := ?_) rfl (Or.inl ⟨by rfl, ?_⟩) ?_; rotate_left 1; (focus (intro W hSW; clear hSW; go_simp; (try (with_reducible rfl)))); (try simp only [Act.put, List.getElem_toArray, List.getElem_cons_zero, List.getElem_cons_succ, List.setIfInBounds_toArray, List.set_cons_zero, List.set_cons_succ])); (refine inT_act rfl rfl (fun K' hK => ?_)); (refine op_store_g _ _ _ rfl rfl rfl tyV.sz rfl HC.out (by repeat (first | exact List.Mem.head _ | apply List.Mem.tail)) (by exact PutS.all _ _ rfl) (by repeat (first | exact Upd.here _ _ _ | apply Upd.there)) ?_; intro w' hg hc; (replace HC := hide hc; clear hc); (refine hK _ _ (.inr (⟨HC.out.loc ⟨bS, [.string (bs [60]), .string (bs [61]), .string (bs [62]), .string (bs [60, 61]), .string (bs [35]), .string (bs [62, 61])], 9⟩ (by repeat (first | exact List.Mem.head _ | apply List.Mem.tail)), HC.out.loc ⟨b1, [.int .i64 f, .int .i64 n, .string (bs t)], 23⟩ (by repeat (first | exact List.Mem.head _ | apply List.Mem.tail)), HC.out.loc ⟨b2, [.int .i64 g, .int .i64 m, .string (bs u)], 23⟩ (by repeat (first | exact List.Mem.head _ | apply List.Mem.tail))⟩)) ?_; clear hK K'; (try simp only [Act.put, List.getElem_toArray, List.getElem_cons_zero, List.getElem_cons_succ, List.setIfInBounds_toArray, List.set_cons_zero, List.set_cons_succ]))); (refine inT_read (v := ?_) rfl (Or.inl ⟨by rfl, ?_⟩) ?_; rotate_left 1; (focus (intro W hSW; clear hSW; go_simp; (try (with_reducible rfl)))); (try simp only [Act.put, List.getElem_toArray, List.getElem_cons_zero, List.getElem_cons_succ, List.setIfInBounds_toArray, List.set_cons_zero, List.set_cons_succ])); (refine inT_end ?_))
        (go_wp2_with (first | (refine at_load 3 rfl ?_; refine wl_load_c rfl 3 _ rfl tcI rfl HC.out (by repeat (first | exact List.Mem.head _ | apply List.Mem.tail)) (by repeat (first | exact GetS.cons _ (GetS.nil _) | apply GetS.skip)) ?_) | (refine at_bs 52 rfl ?_; refine wl_bl rfl 52 _ _ rfl 3 [.int .i64 n0] HC.out (by kernel_rfl) ?_; intro bz w' hn hc; (replace HC := hide hc; clear hc)) | (refine wl_ap rfl _ _ rfl apI.1 apI.2 (by decide) (by decide) rfl rfl HC.out rfl rfl (by decide) ?_; intro d c2 w' hc; (replace HC := hide hc; clear hc))))
        exact ⟨⟨1, 1, _, _, rfl, by first | rfl | go_num, rfl, by decide, hide HC.out.drop⟩, by first | decide | (simp [intOf])⟩
    · subst hj
      obtain rfl : k = 1 := hk
      go_wp2
      (replace HC := hide (HC.out.g (d1_g _)); refine wp_region_inT (fun W => W.heap[bS]? = some (.cells ([.string (bs [60]), .string (bs [61]), .string (bs [62]), .string (bs [60, 61]), .string (bs [35]), .string (bs [62, 61])] : List Value).toArray 9 (0, 0)) ∧ W.heap[b1]? = some (.cells ([.int .i64 f, .int .i64 n, .string (bs t)] : List Value).toArray 23 (0, 0)) ∧ W.heap[b2]? = some (.cells ([.int .i64 g, .int .i64 m, .string (bs u)] : List Value).toArray 23 (0, 0))) 99 (.rd 0 (.rd 1 (.rd 2 (.rd 3 (.rd 4 (.rd 5 (.fork 6 (.rd 7 (.rd 8 (.rd 9 (.act 10 (.act 11 (.rd 12 .nil)))))) 10 (.act 6 (.rd 7 (.rd 8 (.rd 9 (.act 11 (.rd 12 .nil)))))))))))))  (by kernel_rfl) (by kernel_rfl) (by kernel_rfl) (by kernel_rfl) (fun _ _ d _ _ h => by cases d <;> exact h) (⟨HC.out.loc ⟨bS, [.string (bs [60]), .string (bs [61]), .string (bs [62]), .string (bs [60, 61]), .string (bs [35]), .string (bs [62, 61])], 9⟩ (by repeat (first | exact List.Mem.head _ | apply List.Mem.tail)), HC.out.loc ⟨b1, [.int .i64 f, .int .i64 n, .string (bs t)], 23⟩ (by repeat (first | exact List.Mem.head _ | apply List.Mem.tail)), HC.out.loc ⟨b2, [.int .i64 g, .int .i64 m, .string (bs u)], 23⟩ (by repeat (first | exact List.Mem.head _ | apply List.Mem.tail))⟩) ?_; (refine inT_read (v := ?_) rfl (Or.inl ⟨by rfl, ?_⟩) ?_; rotate_left 1; (focus (intro W hSW; clear hSW; go_simp; (try (with_reducible rfl)))); (try simp only [Act.put, List.getElem_toArray, List.getElem_cons_zero, List.getElem_cons_succ, List.setIfInBounds_toArray, List.set_cons_zero, List.set_cons_succ])); (refine inT_read (v := ?_) rfl (Or.inl ⟨by rfl, ?_⟩) ?_; rotate_left 1; (focus (intro W hSW; clear hSW; go_simp; (try (with_reducible rfl)))); (try simp only [Act.put, List.getElem_toArray, List.getElem_cons_zero, List.getElem_cons_succ, List.setIfInBounds_toArray, List.set_cons_zero, List.set_cons_succ])); (refine inT_read (v := ?_) rfl (Or.inl ⟨by rfl, ?_⟩) ?_; rotate_left 1; (focus (intro W hSW; clear hSW; go_simp; (try (with_reducible rfl)))); (try simp only [Act.put, List.getElem_toArray, List.getElem_cons_zero, List.getElem_cons_succ, List.setIfInBounds_toArray, List.set_cons_zero, List.set_cons_succ])); (refine inT_read rfl (yl_cell tcT rfl rfl rfl (fun W hW => cell_of_row _ _ _ _ _ _ hW.1)) ?_; (try simp only [Act.put, List.getElem_toArray, List.getElem_cons_zero, List.getElem_cons_succ, List.setIfInBounds_toArray, List.set_cons_zero, List.set_cons_succ])); (refine inT_read rfl (yl_load rfl rfl rfl (fun W hW => load_of hW.2.1)) ?_; (try simp only [Act.put, List.getElem_toArray, List.getElem_cons_zero, List.getElem_cons_succ, List.setIfInBounds_toArray, List.set_cons_zero, List.set_cons_succ])); (refine inT_read rfl (yl_load rfl rfl rfl (fun W hW => load_of hW.2.2)) ?_; (try simp only [Act.put, List.getElem_toArray, List.getElem_cons_zero, List.getElem_cons_succ, List.setIfInBounds_toArray, List.set_cons_zero, List.set_cons_succ])))
      (refine inT_fork rfl rfl rfl rfl (fun K' hK => ?_) (fun K' hK => ?_))
      · ((go_simp; refine (H1.out _).mono ?_; rintro e w1 ⟨rfl, hg⟩; (replace HC := hide (HC.out.g hg); clear hg); (refine hK _ _ (.inr (⟨HC.out.loc ⟨bS, [.string (bs [60]), .string (bs [61]), .string (bs [62]), .string (bs [60, 61]), .string (bs [35]), .string (bs [62, 61])], 9⟩ (by repeat (first | exact List.Mem.head _ | apply List.Mem.tail)), HC.out.loc ⟨b1, [.int .i64 f, .int .i64 n, .string (bs t)], 23⟩ (by repeat (first | exact List.Mem.head _ | apply List.Mem.tail)), HC.out.loc ⟨b2, [.int .i64 g, .int .i64 m, .string (bs u)], 23⟩ (by repeat (first | exact List.Mem.head _ | apply List.Mem.tail))⟩)) ?_; clear hK K'; (try simp only [Act.put, List.getElem_toArray, List.getElem_cons_zero, List.getElem_cons_succ, List.setIfInBounds_toArray, List.set_cons_zero, List.set_cons_succ]))); (refine inT_read (v := ?_) rfl (Or.inl ⟨by rfl, ?_⟩) ?_; rotate_left 1; (focus (intro W hSW; clear hSW; go_simp; (try (with_reducible rfl)))); (try simp only [Act.put, List.getElem_toArray, List.getElem_cons_zero, List.getElem_cons_succ, List.setIfInBounds_toArray, List.set_cons_zero, List.set_cons_succ])); (refine inT_read (v := ?_) rfl (Or.inl ⟨by rfl, ?_⟩) ?_; rotate_left 1; (focus (intro W hSW; clear hSW; go_simp; (try (with_reducible rfl)))); (try simp only [Act.put, List.getElem_toArray, List.getElem_cons_zero, List.getElem_cons_succ, List.setIfInBounds_toArray, List.set_cons_zero, List.set_cons_succ])); (refine inT_read (v := ?_) rfl (Or.inl ⟨by rfl, ?_⟩) ?_; rotate_left 1; (focus (intro W hSW; clear hSW; go_simp; (try (with_reducible rfl)))); (try simp only [Act.put, List.getElem_toArray, List.getElem_cons_zero, List.getElem_cons_succ, List.setIfInBounds_toArray, List.set_cons_zero, List.set_cons_succ])); (refine inT_act rfl rfl (fun K' hK => ?_)); (refine op_alloc 23 rfl zV HC.out ?_; intro b3 w' hn hg hc; (replace HC := hide hc; clear hc); (refine hK _ _ (.inr (⟨HC.out.loc ⟨bS, [.string (bs [60]), .string (bs [61]), .string (bs [62]), .string (bs [60, 61]), .string (bs [35]), .string (bs [62, 61])], 9⟩ (by repeat (first | exact List.Mem.head _ | apply List.Mem.tail)), HC.out.loc ⟨b1, [.int .i64 f, .int .i64 n, .string (bs t)], 23⟩ (by repeat (first | exact List.Mem.head _ | apply List.Mem.tail)), HC.out.loc ⟨b2, [.int .i64 g, .int .i64 m, .string (bs u)], 23⟩ (by repeat (first | exact List.Mem.head _ | apply List.Mem.tail))⟩)) ?_; clear hK K'; (try simp only [Act.put, List.getElem_toArray, List.getElem_cons_zero, List.getElem_cons_succ, List.setIfInBounds_toArray, List.set_cons_zero, List.set_cons_succ]))); (refine inT_act rfl rfl (fun K' hK => ?_)); (refine op_store_g _ _ _ rfl rfl rfl tyV.sz rfl HC.out (by repeat (first | exact List.Mem.head _ | apply List.Mem.tail)) (by exact PutS.all _ _ rfl) (by repeat (first | exact Upd.here _ _ _ | apply Upd.there)) ?_; intro w' hg hc; (replace HC := hide hc; clear hc); (refine hK _ _ (.inr (⟨HC.out.loc ⟨bS, [.string (bs [60]), .string (bs [61]), .string (bs [62]), .string (bs [60, 61]), .string (bs [35]), .string (bs [62, 61])], 9⟩ (by repeat (first | exact List.Mem.head _ | apply List.Mem.tail)), HC.out.loc ⟨b1, [.int .i64 f, .int .i64 n, .string (bs t)], 23⟩ (by repeat (first | exact List.Mem.head _ | apply List.Mem.tail)), HC.out.loc ⟨b2, [.int .i64 g, .int .i64 m, .string (bs u)], 23⟩ (by repeat (first | exact List.Mem.head _ | apply List.Mem.tail))⟩)) ?_; clear hK K'; (try simp only [Act.put, List.getElem_toArray, List.getElem_cons_zero, List.getElem_cons_succ, List.setIfInBounds_toArray, List.set_cons_zero, List.set_cons_succ]))); (refine inT_read (v := ?_) rfl (Or.inl ⟨by rfl, ?_⟩) ?_; rotate_left 1; (focus (intro W hSW; clear hSW; go_simp; (try (with_reducible rfl)))); (try simp only [Act.put, List.getElem_toArray, List.getElem_cons_zero, List.getElem_cons_succ, List.setIfInBounds_toArray, List.set_cons_zero, List.set_cons_succ])); (refine inT_end ?_))
        (go_wp2_with (first | (refine at_load 3 rfl ?_; refine wl_load_c rfl 3 _ rfl tcI rfl HC.out (by repeat (first | exact List.Mem.head _ | apply List.Mem.tail)) (by repeat (first | exact GetS.cons _ (GetS.nil _) | apply GetS.skip)) ?_) | (refine at_bs 52 rfl ?_; refine wl_bl rfl 52 _ _ rfl 3 [.int .i64 n1] HC.out (by kernel_rfl) ?_; intro bz w' hn hc; (replace HC := hide hc; clear hc)) | (refine wl_ap rfl _ _ rfl apI.1 apI.2 (by decide) (by decide) rfl rfl HC.out rfl rfl (by decide) ?_; intro d c2 w' hc; (replace HC := hide hc; clear hc))))
        exact ⟨⟨2, 2, _, _, rfl, by first | rfl | go_num, rfl, by decide, hide HC.out.drop⟩, by first | decide | (simp [intOf])⟩
      · ((refine op_alloc 23 rfl zV HC.out ?_; intro b3 w' hn hg hc; (replace HC := hide hc; clear hc); (refine hK _ _ (.inr (⟨HC.out.loc ⟨bS, [.string (bs [60]), .string (bs [61]), .string (bs [62]), .string (bs [60, 61]), .string (bs [35]), .string (bs [62, 61])], 9⟩ (by repeat (first | exact List.Mem.head _ | apply List.Mem.tail)), HC.out.loc ⟨b1, [.int .i64 f, .int .i64 n, .string (bs t)], 23⟩ (by repeat (first | exact List.Mem.head _ | apply List.Mem.tail)), HC.out.loc ⟨b2, [.int .i64 g, .int .i64 m, .string (bs u)], 23⟩ (by repeat (first | exact List.Mem.head _ | apply List.Mem.tail))⟩)) ?_; clear hK K'; (try simp only [Act.put, List.getElem_toArray, List.getElem_cons_zero, List.getElem_cons_succ, List.setIfInBounds_toArray, List.set_cons_zero, List.set_cons_succ]))); (refine inT_act rfl rfl (fun K' hK => ?_)); (go_simp; refine (H1.out _).mono ?_; rintro e w1 ⟨rfl, hg⟩; (replace HC := hide (HC.out.g hg); clear hg); (refine hK _ _ (.inr (⟨HC.out.loc ⟨bS, [.string (bs [60]), .string (bs [61]), .string (bs [62]), .string (bs [60, 61]), .string (bs [35]), .string (bs [62, 61])], 9⟩ (by repeat (first | exact List.Mem.head _ | apply List.Mem.tail)), HC.out.loc ⟨b1, [.int .i64 f, .int .i64 n, .string (bs t)], 23⟩ (by repeat (first | exact List.Mem.head _ | apply List.Mem.tail)), HC.out.loc ⟨b2, [.int .i64 g, .int .i64 m, .string (bs u)], 23⟩ (by repeat (first | exact List.Mem.head _ | apply List.Mem.tail))⟩)) ?_; clear hK K'; (try simp only [Act.put, List.getElem_toArray, List.getElem_cons_zero, List.getElem_cons_succ, List.setIfInBounds_toArray, List.set_cons_zero, List.set_cons_succ]))); (refine inT_read (v := ?_) rfl (Or.inl ⟨by rfl, ?_⟩) ?_; rotate_left 1; (focus (intro W hSW; clear hSW; go_simp; (try (with_reducible rfl)))); (try simp only [Act.put, List.getElem_toArray, List.getElem_cons_zero, List.getElem_cons_succ, List.setIfInBounds_toArray, List.set_cons_zero, List.set_cons_succ])); (refine inT_read (v := ?_) rfl (Or.inl ⟨by rfl, ?_⟩) ?_; rotate_left 1; (focus (intro W hSW; clear hSW; go_simp; (try (with_reducible rfl)))); (try simp only [Act.put, List.getElem_toArray, List.getElem_cons_zero, List.getElem_cons_succ, List.setIfInBounds_toArray, List.set_cons_zero, List.set_cons_succ])); (refine inT_read (v := ?_) rfl (Or.inl ⟨by rfl, ?_⟩) ?_; rotate_left 1; (focus (intro W hSW; clear hSW; go_simp; (try (with_reducible rfl)))); (try simp only [Act.put, List.getElem_toArray, List.getElem_cons_zero, List.getElem_cons_succ, List.setIfInBounds_toArray, List.set_cons_zero, List.set_cons_succ])); (refine inT_act rfl rfl (fun K' hK => ?_)); (refine op_store_g _ _ _ rfl rfl rfl tyV.sz rfl HC.out (by repeat (first | exact List.Mem.head _ | apply List.Mem.tail)) (by exact PutS.all _ _ rfl) (by repeat (first | exact Upd.here _ _ _ | apply Upd.there)) ?_; intro w' hg hc; (replace HC := hide hc; clear hc); (refine hK _ _ (.inr (⟨HC.out.loc ⟨bS, [.string (bs [60]), .string (bs [61]), .string (bs [62]), .string (bs [60, 61]), .string (bs [35]), .string (bs [62, 61])], 9⟩ (by repeat (first | exact List.Mem.head _ | apply List.Mem.tail)), HC.out.loc ⟨b1, [.int .i64 f, .int .i64 n, .string (bs t)], 23⟩ (by repeat (first | exact List.Mem.head _ | apply List.Mem.tail)), HC.out.loc ⟨b2, [.int .i64 g, .int .i64 m, .string (bs u)], 23⟩ (by repeat (first | exact List.Mem.head _ | apply List.Mem.tail))⟩)) ?_; clear hK K'; (try simp only [Act.put, List.getElem_toArray, List.getElem_cons_zero, List.getElem_cons_succ, List.setIfInBounds_toArray, List.set_cons_zero, List.set_cons_succ]))); (refine inT_read (v := ?_) rfl (Or.inl ⟨by rfl, ?_⟩) ?_; rotate_left 1; (focus (intro W hSW; clear hSW; go_simp; (try (with_reducible rfl)))); (try simp only [Act.put, List.getElem_toArray, List.getElem_cons_zero, List.getElem_cons_succ, List.setIfInBounds_toArray, List.set_cons_zero, List.set_cons_succ])); (refine inT_end ?_))
        (go_wp2_with (first | (refine at_load 3 rfl ?_; refine wl_load_c rfl 3 _ rfl tcI rfl HC.out (by repeat (first | exact List.Mem.head _ | apply List.Mem.tail)) (by repeat (first | exact GetS.cons _ (GetS.nil _) | apply GetS.skip)) ?_) | (refine at_bs 52 rfl ?_; refine wl_bl rfl 52 _ _ rfl 3 [.int .i64 n1] HC.out (by kernel_rfl) ?_; intro bz w' hn hc; (replace HC := hide hc; clear hc)) | (refine wl_ap rfl _ _ rfl apI.1 apI.2 (by decide) (by decide) rfl rfl HC.out rfl rfl (by decide) ?_; intro d c2 w' hc; (replace HC := hide hc; clear hc))))
        exact ⟨⟨2, 2, _, _, rfl, by first | rfl | go_num, rfl, by decide, hide HC.out.drop⟩, by first | decide | (simp [intOf])⟩
    · subst hj
      obtain rfl : k = 2 := hk
      go_wp2
      (replace HC := hide (HC.out.g (d1_g _)); refine wp_region_inT (fun W => W.heap[bS]? = some (.cells ([.string (bs [60]), .string (bs [61]), .string (bs [62]), .string (bs [60, 61]), .string (bs [35]), .string (bs [62, 61])] : List Value).toArray 9 (0, 0)) ∧ W.heap[b1]? = some (.cells ([.int .i64 f, .int .i64 n, .string (bs t)] : List Value).toArray 23 (0, 0)) ∧ W.heap[b2]? = some (.cells ([.int .i64 g, .int .i64 m, .string (bs u)] : List Value).toArray 23 (0, 0))) 99 (.rd 0 (.rd 1 (.rd 2 (.rd 3 (.rd 4 (.rd 5 (.fork 6 (.rd 7 (.rd 8 (.rd 9 (.act 10 (.act 11 (.rd 12 .nil)))))) 10 (.act 6 (.rd 7 (.rd 8 (.rd 9 (.act 11 (.rd 12 .nil)))))))))))))  (by kernel_rfl) (by kernel_rfl) (by kernel_rfl) (by kernel_rfl) (fun _ _ d _ _ h => by cases d <;> exact h) (⟨HC.out.loc ⟨bS, [.string (bs [60]), .string (bs [61]), .string (bs [62]), .string (bs [60, 61]), .string (bs [35]), .string (bs [62, 61])], 9⟩ (by repeat (first | exact List.Mem.head _ | apply List.Mem.tail)), HC.out.loc ⟨b1, [.int .i64 f, .int .i64 n, .string (bs t)], 23⟩ (by repeat (first | exact List.Mem.head _ | apply List.Mem.tail)), HC.out.loc ⟨b2, [.int .i64 g, .int .i64 m, .string (bs u)], 23⟩ (by repeat (first | exact List.Mem.head _ | apply List.Mem.tail))⟩) ?_; (refine inT_read (v := ?_) rfl (Or.inl ⟨by rfl, ?_⟩) ?_; rotate_left 1; (focus (intro W hSW; clear hSW; go_simp; (try (with_reducible rfl)))); (try simp only [Act.put, List.getElem_toArray, List.getElem_cons_zero, List.getElem_cons_succ, List.setIfInBounds_toArray, List.set_cons_zero, List.set_cons_succ])); (refine inT_read (v := ?_) rfl (Or.inl ⟨by rfl, ?_⟩) ?_; rotate_left 1; (focus (intro W hSW; clear hSW; go_simp; (try (with_reducible rfl)))); (try simp only [Act.put, List.getElem_toArray, List.getElem_cons_zero, List.getElem_cons_succ, List.setIfInBounds_toArray, List.set_cons_zero, List.set_cons_succ])); (refine inT_read (v := ?_) rfl (Or.inl ⟨by rfl, ?_⟩) ?_; rotate_left 1; (focus (intro W hSW; clear hSW; go_simp; (try (with_reducible rfl)))); (try simp only [Act.put, List.getElem_toArray, List.getElem_cons_zero, List.getElem_cons_succ, List.setIfInBounds_toArray, List.set_cons_zero, List.set_cons_succ])); (refine inT_read rfl (yl_cell tcT rfl rfl rfl (fun W hW => cell_of_row _ _ _ _ _ _ hW.1)) ?_; (try simp only [Act.put, List.getElem_toArray, List.getElem_cons_zero, List.getElem_cons_succ, List.setIfInBounds_toArray, List.set_cons_zero, List.set_cons_succ])); (refine inT_read rfl (yl_load rfl rfl rfl (fun W hW => load_of hW.2.1)) ?_; (try simp only [Act.put, List.getElem_toArray, List.getElem_cons_zero, List.getElem_cons_succ, List.setIfInBounds_toArray, List.set_cons_zero, List.set_cons_succ])); (refine inT_read rfl (yl_load rfl rfl rfl (fun W hW => load_of hW.2.2)) ?_; (try simp only [Act.put, List.getElem_toArray, List.getElem_cons_zero, List.getElem_cons_succ, List.setIfInBounds_toArray, List.set_cons_zero, List.set_cons_succ])))
      (refine inT_fork rfl rfl rfl rfl (fun K' hK => ?_) (fun K' hK => ?_))
      · ((go_simp; refine (H2.out _).mono ?_; rintro e w1 ⟨rfl, hg⟩; (replace HC := hide (HC.out.g hg); clear hg); (refine hK _ _ (.inr (⟨HC.out.loc ⟨bS, [.string (bs [60]), .string (bs [61]), .string (bs [62]), .string (bs [60, 61]), .string (bs [35]), .string (bs [62, 61])], 9⟩ (by repeat (first | exact List.Mem.head _ | apply List.Mem.tail)), HC.out.loc ⟨b1, [.int .i64 f, .int .i64 n, .string (bs t)], 23⟩ (by repeat (first | exact List.Mem.head _ | apply List.Mem.tail)), HC.out.loc ⟨b2, [.int .i64 g, .int .i64 m, .string (bs u)], 23⟩ (by repeat (first | exact List.Mem.head _ | apply List.Mem.tail))⟩)) ?_; clear hK K'; (try simp only [Act.put, List.getElem_toArray, List.getElem_cons_zero, List.getElem_cons_succ, List.setIfInBounds_toArray, List.set_cons_zero, List.set_cons_succ]))); (refine inT_read (v := ?_) rfl (Or.inl ⟨by rfl, ?_⟩) ?_; rotate_left 1; (focus (intro W hSW; clear hSW; go_simp; (try (with_reducible rfl)))); (try simp only [Act.put, List.getElem_toArray, List.getElem_cons_zero, List.getElem_cons_succ, List.setIfInBounds_toArray, List.set_cons_zero, List.set_cons_succ])); (refine inT_read (v := ?_) rfl (Or.inl ⟨by rfl, ?_⟩) ?_; rotate_left 1; (focus (intro W hSW; clear hSW; go_simp; (try (with_reducible rfl)))); (try simp only [Act.put, List.getElem_toArray, List.getElem_cons_zero, List.getElem_cons_succ, List.setIfInBounds_toArray, List.set_cons_zero, List.set_cons_succ])); (refine inT_read (v := ?_) rfl (Or.inl ⟨by rfl, ?_⟩) ?_; rotate_left 1; (focus (intro W hSW; clear hSW; go_simp; (try (with_reducible rfl)))); (try simp only [Act.put, List.getElem_toArray, List.getElem_cons_zero, List.getElem_cons_succ, List.setIfInBounds_toArray, List.set_cons_zero, List.set_cons_succ])); (refine inT_act rfl rfl (fun K' hK => ?_)); (refine op_alloc 23 rfl zV HC.out ?_; intro b3 w' hn hg hc; (replace HC := hide hc; clear hc); (refine hK _ _ (.inr (⟨HC.out.loc ⟨bS, [.string (bs [60]), .string (bs [61]), .string (bs [62]), .string (bs [60, 61]), .string (bs [35]), .string (bs [62, 61])], 9⟩ (by repeat (first | exact List.Mem.head _ | apply List.Mem.tail)), HC.out.loc ⟨b1, [.int .i64 f, .int .i64 n, .string (bs t)], 23⟩ (by repeat (first | exact List.Mem.head _ | apply List.Mem.tail)), HC.out.loc ⟨b2, [.int .i64 g, .int .i64 m, .string (bs u)], 23⟩ (by repeat (first | exact List.Mem.head _ | apply List.Mem.tail))⟩)) ?_; clear hK K'; (try simp only [Act.put, List.getElem_toArray, List.getElem_cons_zero, List.getElem_cons_succ, List.setIfInBounds_toArray, List.set_cons_zero, List.set_cons_succ]))); (refine inT_act rfl rfl (fun K' hK => ?_)); (refine op_store_g _ _ _ rfl rfl rfl tyV.sz rfl HC.out (by repeat (first | exact List.Mem.head _ | apply List.Mem.tail)) (by exact PutS.all _ _ rfl) (by repeat (first | exact Upd.here _ _ _ | apply Upd.there)) ?_; intro w' hg hc; (replace HC := hide hc; clear hc); (refine hK _ _ (.inr (⟨HC.out.loc ⟨bS, [.string (bs [60]), .string (bs [61]), .string (bs [62]), .string (bs [60, 61]), .string (bs [35]), .string (bs [62, 61])], 9⟩ (by repeat (first | exact List.Mem.head _ | apply List.Mem.tail)), HC.out.loc ⟨b1, [.int .i64 f, .int .i64 n, .string (bs t)], 23⟩ (by repeat (first | exact List.Mem.head _ | apply List.Mem.tail)), HC.out.loc ⟨b2, [.int .i64 g, .int .i64 m, .string (bs u)], 23⟩ (by repeat (first | exact List.Mem.head _ | apply List.Mem.tail))⟩)) ?_; clear hK K'; (try simp only [Act.put, List.getElem_toArray, List.getElem_cons_zero, List.getElem_cons_succ, List.setIfInBounds_toArray, List.set_cons_zero, List.set_cons_succ]))); (refine inT_read (v := ?_) rfl (Or.inl ⟨by rfl, ?_⟩) ?_; rotate_left 1; (focus (intro W hSW; clear hSW; go_simp; (try (with_reducible rfl)))); (try simp only [Act.put, List.getElem_toArray, List.getElem_cons_zero, List.getElem_cons_succ, List.setIfInBounds_toArray, List.set_cons_zero, List.set_cons_succ])); (refine inT_end ?_))
        (go_wp2_with (first | (refine at_load 3 rfl ?_; refine wl_load_c rfl 3 _ rfl tcI rfl HC.out (by repeat (first | exact List.Mem.head _ | apply List.Mem.tail)) (by repeat (first | exact GetS.cons _ (GetS.nil _) | apply GetS.skip)) ?_) | (refine at_bs 52 rfl ?_; refine wl_bl rfl 52 _ _ rfl 3 [.int .i64 n2] HC.out (by kernel_rfl) ?_; intro bz w' hn hc; (replace HC := hide hc; clear hc)) | (refine wl_ap rfl _ _ rfl apI.1 apI.2 (by decide) (by decide) rfl rfl HC.out rfl rfl (by decide) ?_; intro d c2 w' hc; (replace HC := hide hc; clear hc))))
        exact ⟨⟨3, 3, _, _, rfl, by first | rfl | go_num, rfl, by decide, hide HC.out.drop⟩, by first | decide | (simp [intOf])⟩
      · ((refine op_alloc 23 rfl zV HC.out ?_; intro b3 w' hn hg hc; (replace HC := hide hc; clear hc); (refine hK _ _ (.inr (⟨HC.out.loc ⟨bS, [.string (bs [60]), .string (bs [61]), .string (bs [62]), .string (bs [60, 61]), .string (bs [35]), .string (bs [62, 61])], 9⟩ (by repeat (first | exact List.Mem.head _ | apply List.Mem.tail)), HC.out.loc ⟨b1, [.int .i64 f, .int .i64 n, .string (bs t)], 23⟩ (by repeat (first | exact List.Mem.head _ | apply List.Mem.tail)), HC.out.loc ⟨b2, [.int .i64 g, .int .i64 m, .string (bs u)], 23⟩ (by repeat (first | exact List.Mem.head _ | apply List.Mem.tail))⟩)) ?_; clear hK K'; (try simp only [Act.put, List.getElem_toArray, List.getElem_cons_zero, List.getElem_cons_succ, List.setIfInBounds_toArray, List.set_cons_zero, List.set_cons_succ]))); (refine inT_act rfl rfl (fun K' hK => ?_)); (go_simp; refine (H2.out _).mono ?_; rintro e w1 ⟨rfl, hg⟩; (replace HC := hide (HC.out.g hg); clear hg); (refine hK _ _ (.inr (⟨HC.out.loc ⟨bS, [.string (bs [60]), .string (bs [61]), .string (bs [62]), .string (bs [60, 61]), .string (bs [35]), .string (bs [62, 61])], 9⟩ (by repeat (first | exact List.Mem.head _ | apply List.Mem.tail)), HC.out.loc ⟨b1, [.int .i64 f, .int .i64 n, .string (bs t)], 23⟩ (by repeat (first | exact List.Mem.head _ | apply List.Mem.tail)), HC.out.loc ⟨b2, [.int .i64 g, .int .i64 m, .string (bs u)], 23⟩ (by repeat (first | exact List.Mem.head _ | apply List.Mem.tail))⟩)) ?_; clear hK K'; (try simp only [Act.put, List.getElem_toArray, List.getElem_cons_zero, List.getElem_cons_succ, List.setIfInBounds_toArray, List.set_cons_zero, List.set_cons_succ]))); (refine inT_read (v := ?_) rfl (Or.inl ⟨by rfl, ?_⟩) ?_; rotate_left 1; (focus (intro W hSW; clear hSW; go_simp; (try (with_reducible rfl)))); (try simp only [Act.put, List.getElem_toArray, List.getElem_cons_zero, List.getElem_cons_succ, List.setIfInBounds_toArray, List.set_cons_zero, List.set_cons_succ])); (refine inT_read (v := ?_) rfl (Or.inl ⟨by rfl, ?_⟩) ?_; rotate_left 1; (focus (intro W hSW; clear hSW; go_simp; (try (with_reducible rfl)))); (try simp only [Act.put, List.getElem_toArray, List.getElem_cons_zero, List.getElem_cons_succ, List.setIfInBounds_toArray, List.set_cons_zero, List.set_cons_succ])); (refine inT_read (v := ?_) rfl (Or.inl ⟨by rfl, ?_⟩) ?_; rotate_left 1; (focus (intro W hSW; clear hSW; go_simp; (try (with_reducible rfl)))); (try simp only [Act.put, List.getElem_toArray, List.getElem_cons_zero, List.getElem_cons_succ, List.setIfInBounds_toArray, List.set_cons_zero, List.set_cons_succ])); (refine inT_act rfl rfl (fun K' hK => ?_)); (refine op_store_g _ _ _ rfl rfl rfl tyV.sz rfl HC.out (by repeat (first | exact List.Mem.head _ | apply List.Mem.tail)) (by exact PutS.all _ _ rfl) (by repeat (first | exact Upd.here _ _ _ | apply Upd.there)) ?_; intro w' hg hc; (replace HC := hide hc; clear hc); (refine hK _ _ (.inr (⟨HC.out.loc ⟨bS, [.string (bs [60]), .string (bs [61]), .string (bs [62]), .string (bs [60, 61]), .string (bs [35]), .string (bs [62, 61])], 9⟩ (by repeat (first | exact List.Mem.head _ | apply List.Mem.tail)), HC.out.loc ⟨b1, [.int .i64 f, .int .i64 n, .string (bs t)], 23⟩ (by repeat (first | exact List.Mem.head _ | apply List.Mem.tail)), HC.out.loc ⟨b2, [.int .i64 g, .int .i64 m, .string (bs u)], 23⟩ (by repeat (first | exact List.Mem.head _ | apply List.Mem.tail))⟩)) ?_; clear hK K'; (try simp only [Act.put, List.getElem_toArray, List.getElem_cons_zero, List.getElem_cons_succ, List.setIfInBounds_toArray, List.set_cons_zero, List.set_cons_succ]))); (refine inT_read (v := ?_) rfl (Or.inl ⟨by rfl, ?_⟩) ?_; rotate_left 1; (focus (intro W hSW; clear hSW; go_simp; (try (with_reducible rfl)))); (try simp only [Act.put, List.getElem_toArray, List.getElem_cons_zero, List.getElem_cons_succ, List.setIfInBounds_toArray, List.set_cons_zero, List.set_cons_succ])); (refine inT_end ?_))
        (go_wp2_with (first | (refine at_load 3 rfl ?_; refine wl_load_c rfl 3 _ rfl tcI rfl HC.out (by repeat (first | exact List.Mem.head _ | apply List.Mem.tail)) (by repeat (first | exact GetS.cons _ (GetS.nil _) | apply GetS.skip)) ?_) | (refine at_bs 52 rfl ?_; refine wl_bl rfl 52 _ _ rfl 3 [.int .i64 n2] HC.out (by kernel_rfl) ?_; intro bz w' hn hc; (replace HC := hide hc; clear hc)) | (refine wl_ap rfl _ _ rfl apI.1 apI.2 (by decide) (by decide) rfl rfl HC.out rfl rfl (by decide) ?_; intro d c2 w' hc; (replace HC := hide hc; clear hc))))
        exact ⟨⟨3, 3, _, _, rfl, by first | rfl | go_num, rfl, by decide, hide HC.out.drop⟩, by first | decide | (simp [intOf])⟩
    · subst hj
      obtain rfl : k = 3 := hk
      go_wp2
      (replace HC := hide (HC.out.g (d1_g _)); refine wp_region_inT (fun W => W.heap[bS]? = some (.cells ([.string (bs [60]), .string (bs [61]), .string (bs [62]), .string (bs [60, 61]), .string (bs [35]), .string (bs [62, 61])] : List Value).toArray 9 (0, 0)) ∧ W.heap[b1]? = some (.cells ([.int .i64 f, .int .i64 n, .string (bs t)] : List Value).toArray 23 (0, 0)) ∧ W.heap[b2]? = some (.cells ([.int .i64 g, .int .i64 m, .string (bs u)] : List Value).toArray 23 (0, 0))) 99 (.rd 0 (.rd 1 (.rd 2 (.rd 3 (.rd 4 (.rd 5 (.fork 6 (.rd 7 (.rd 8 (.rd 9 (.act 10 (.act 11 (.rd 12 .nil)))))) 10 (.act 6 (.rd 7 (.rd 8 (.rd 9 (.act 11 (.rd 12 .nil)))))))))))))  (by kernel_rfl) (by kernel_rfl) (by kernel_rfl) (by kernel_rfl) (fun _ _ d _ _ h => by cases d <;> exact h) (⟨HC.out.loc ⟨bS, [.string (bs [60]), .string (bs [61]), .string (bs [62]), .string (bs [60, 61]), .string (bs [35]), .string (bs [62, 61])], 9⟩ (by repeat (first | exact List.Mem.head _ | apply List.Mem.tail)), HC.out.loc ⟨b1, [.int .i64 f, .int .i64 n, .string (bs t)], 23⟩ (by repeat (first | exact List.Mem.head _ | apply List.Mem.tail)), HC.out.loc ⟨b2, [.int .i64 g, .int .i64 m, .string (bs u)], 23⟩ (by repeat (first | exact List.Mem.head _ | apply List.Mem.tail))⟩) ?_; (refine inT_read (v := ?_) rfl (Or.inl ⟨by rfl, ?_⟩) ?_; rotate_left 1; (focus (intro W hSW; clear hSW; go_simp; (try (with_reducible rfl)))); (try simp only [Act.put, List.getElem_toArray, List.getElem_cons_zero, List.getElem_cons_succ, List.setIfInBounds_toArray, List.set_cons_zero, List.set_cons_succ])); (refine inT_read (v := ?_) rfl (Or.inl ⟨by rfl, ?_⟩) ?_; rotate_left 1; (focus (intro W hSW; clear hSW; go_simp; (try (with_reducible rfl)))); (try simp only [Act.put, List.getElem_toArray, List.getElem_cons_zero, List.getElem_cons_succ, List.setIfInBounds_toArray, List.set_cons_zero, List.set_cons_succ])); (refine inT_read (v := ?_) rfl (Or.inl ⟨by rfl, ?_⟩) ?_; rotate_left 1; (focus (intro W hSW; clear hSW; go_simp; (try (with_reducible rfl)))); (try simp only [Act.put, List.getElem_toArray, List.getElem_cons_zero, List.getElem_cons_succ, List.setIfInBounds_toArray, List.set_cons_zero, List.set_cons_succ])); (refine inT_read rfl (yl_cell tcT rfl rfl rfl (fun W hW => cell_of_row _ _ _ _ _ _ hW.1)) ?_; (try simp only [Act.put, List.getElem_toArray, List.getElem_cons_zero, List.getElem_cons_succ, List.setIfInBounds_toArray, List.set_cons_zero, List.set_cons_succ])); (refine inT_read rfl (yl_load rfl rfl rfl (fun W hW => load_of hW.2.1)) ?_; (try simp only [Act.put, List.getElem_toArray, List.getElem_cons_zero, List.getElem_cons_succ, List.setIfInBounds_toArray, List.set_cons_zero, List.set_cons_succ])); (refine inT_read rfl (yl_load rfl rfl rfl (fun W hW => load_of hW.2.2)) ?_; (try simp only [Act.put, List.getElem_toArray, List.getElem_cons_zero, List.getElem_cons_succ, List.setIfInBounds_toArray, List.set_cons_zero, List.set_cons_succ])))
      (refine inT_fork rfl rfl rfl rfl (fun K' hK => ?_) (fun K' hK => ?_))
      · ((go_simp; refine (H3.out _).mono ?_; rintro e w1 ⟨rfl, hg⟩; (replace HC := hide (HC.out.g hg); clear hg); (refine hK _ _ (.inr (⟨HC.out.loc ⟨bS, [.string (bs [60]), .string (bs [61]), .string (bs [62]), .string (bs [60, 61]), .string (bs [35]), .string (bs [62, 61])], 9⟩ (by repeat (first | exact List.Mem.head _ | apply List.Mem.tail)), HC.out.loc ⟨b1, [.int .i64 f, .int .i64 n, .string (bs t)], 23⟩ (by repeat (first | exact List.Mem.head _ | apply List.Mem.tail)), HC.out.loc ⟨b2, [.int .i64 g, .int .i64 m, .string (bs u)], 23⟩ (by repeat (first | exact List.Mem.head _ | apply List.Mem.tail))⟩)) ?_; clear hK K'; (try simp only [Act.put, List.getElem_toArray, List.getElem_cons_zero, List.getElem_cons_succ, List.setIfInBounds_toArray, List.set_cons_zero, List.set_cons_succ]))); (refine inT_read (v := ?_) rfl (Or.inl ⟨by rfl, ?_⟩) ?_; rotate_left 1; (focus (intro W hSW; clear hSW; go_simp; (try (with_reducible rfl)))); (try simp only [Act.put, List.getElem_toArray, List.getElem_cons_zero, List.getElem_cons_succ, List.setIfInBounds_toArray, List.set_cons_zero, List.set_cons_succ])); (refine inT_read (v := ?_) rfl (Or.inl ⟨by rfl, ?_⟩) ?_; rotate_left 1; (focus (intro W hSW; clear hSW; go_simp; (try (with_reducible rfl)))); (try simp only [Act.put, List.getElem_toArray, List.getElem_cons_zero, List.getElem_cons_succ, List.setIfInBounds_toArray, List.set_cons_zero, List.set_cons_succ])); (refine inT_read (v := ?_) rfl (Or.inl ⟨by rfl, ?_⟩) ?_; rotate_left 1; (focus (intro W hSW; clear hSW; go_simp; (try (with_reducible rfl)))); (try simp only [Act.put, List.getElem_toArray, List.getElem_cons_zero, List.getElem_cons_succ, List.setIfInBounds_toArray, List.set_cons_zero, List.set_cons_succ])); (refine inT_act rfl rfl (fun K' hK => ?_)); (refine op_alloc 23 rfl zV HC.out ?_; intro b3 w' hn hg hc; (replace HC := hide hc; clear hc); (refine hK _ _ (.inr (⟨HC.out.loc ⟨bS, [.string (bs [60]), .string (bs [61]), .string (bs [62]), .string (bs [60, 61]), .string (bs [35]), .string (bs [62, 61])], 9⟩ (by repeat (first | exact List.Mem.head _ | apply List.Mem.tail)), HC.out.loc ⟨b1, [.int .i64 f, .int .i64 n, .string (bs t)], 23⟩ (by repeat (first | exact List.Mem.head _ | apply List.Mem.tail)), HC.out.loc ⟨b2, [.int .i64 g, .int .i64 m, .string (bs u)], 23⟩ (by repeat (first | exact List.Mem.head _ | apply List.Mem.tail))⟩)) ?_; clear hK K'; (try simp only [Act.put, List.getElem_toArray, List.getElem_cons_zero, List.getElem_cons_succ, List.setIfInBounds_toArray, List.set_cons_zero, List.set_cons_succ]))); (refine inT_act rfl rfl (fun K' hK => ?_)); (refine op_store_g _ _ _ rfl rfl rfl tyV.sz rfl HC.out (by repeat (first | exact List.Mem.head _ | apply List.Mem.tail)) (by exact PutS.all _ _ rfl) (by repeat (first | exact Upd.here _ _ _ | apply Upd.there)) ?_; intro w' hg hc; (replace HC := hide hc; clear hc); (refine hK _ _ (.inr (⟨HC.out.loc ⟨bS, [.string (bs [60]), .string (bs [61]), .string (bs [62]), .string (bs [60, 61]), .string (bs [35]), .string (bs [62, 61])], 9⟩ (by repeat (first | exact List.Mem.head _ | apply List.Mem.tail)), HC.out.loc ⟨b1, [.int .i64 f, .int .i64 n, .string (bs t)], 23⟩ (by repeat (first | exact List.Mem.head _ | apply List.Mem.tail)), HC.out.loc ⟨b2, [.int .i64 g, .int .i64 m, .string (bs u)], 23⟩ (by repeat (first | exact List.Mem.head _ | apply List.Mem.tail))⟩)) ?_; clear hK K'; (try simp only [Act.put, List.getElem_toArray, List.getElem_cons_zero, List.getElem_cons_succ, List.setIfInBounds_toArray, List.set_cons_zero, List.set_cons_succ]))); (refine inT_read (v := ?_) rfl (Or.inl ⟨by rfl, ?_⟩) ?_; rotate_left 1; (focus (intro W hSW; clear hSW; go_simp; (try (with_reducible rfl)))); (try simp only [Act.put, List.getElem_toArray, List.getElem_cons_zero, List.getElem_cons_succ, List.setIfInBounds_toArray, List.set_cons_zero, List.set_cons_succ])); (refine inT_end ?_))
        (go_wp2_with (first | (refine at_load 3 rfl ?_; refine wl_load_c rfl 3 _ rfl tcI rfl HC.out (by repeat (first | exact List.Mem.head _ | apply List.Mem.tail)) (by repeat (first | exact GetS.cons _ (GetS.nil _) | apply GetS.skip)) ?_) | (refine at_bs 52 rfl ?_; refine wl_bl rfl 52 _ _ rfl 3 [.int .i64 n3] HC.out (by kernel_rfl) ?_; intro bz w' hn hc; (replace HC := hide hc; clear hc)) | (refine wl_ap rfl _ _ rfl apI.1 apI.2 (by decide) (by decide) rfl rfl HC.out rfl rfl (by decide) ?_; intro d c2 w' hc; (replace HC := hide hc; clear hc))))
        exact ⟨⟨4, 4, _, _, rfl, by first | rfl | go_num, rfl, by decide, hide HC.out.drop⟩, by first | decide | (simp [intOf])⟩
      · ((refine op_alloc 23 rfl zV HC.out ?_; intro b3 w' hn hg hc; (replace HC := hide hc; clear hc); (refine hK _ _ (.inr (⟨HC.out.loc ⟨bS, [.string (bs [60]), .string (bs [61]), .string (bs [62]), .string (bs [60, 61]), .string (bs [35]), .string (bs [62, 61])], 9⟩ (by repeat (first | exact List.Mem.head _ | apply List.Mem.tail)), HC.out.loc ⟨b1, [.int .i64 f, .int .i64 n, .string (bs t)], 23⟩ (by repeat (first | exact List.Mem.head _ | apply List.Mem.tail)), HC.out.loc ⟨b2, [.int .i64 g, .int .i64 m, .string (bs u)], 23⟩ (by repeat (first | exact List.Mem.head _ | apply List.Mem.tail))⟩)) ?_; clear hK K'; (try simp only [Act.put, List.getElem_toArray, List.getElem_cons_zero, List.getElem_cons_succ, List.setIfInBounds_toArray, List.set_cons_zero, List.set_cons_succ]))); (refine inT_act rfl rfl (fun K' hK => ?_)); (go_simp; refine (H3.out _).mono ?_; rintro e w1 ⟨rfl, hg⟩; (replace HC := hide (HC.out.g hg); clear hg); (refine hK _ _ (.inr (⟨HC.out.loc ⟨bS, [.string (bs [60]), .string (bs [61]), .string (bs [62]), .string (bs [60, 61]), .string (bs [35]), .string (bs [62, 61])], 9⟩ (by repeat (first | exact List.Mem.head _ | apply List.Mem.tail)), HC.out.loc ⟨b1, [.int .i64 f, .int .i64 n, .string (bs t)], 23⟩ (by repeat (first | exact List.Mem.head _ | apply List.Mem.tail)), HC.out.loc ⟨b2, [.int .i64 g, .int .i64 m, .string (bs u)], 23⟩ (by repeat (first | exact List.Mem.head _ | apply List.Mem.tail))⟩)) ?_; clear hK K'; (try simp only [Act.put, List.getElem_toArray, List.getElem_cons_zero, List.getElem_cons_succ, List.setIfInBounds_toArray, List.set_cons_zero, List.set_cons_succ]))); (refine inT_read (v := ?_) rfl (Or.inl ⟨by rfl, ?_⟩) ?_; rotate_left 1; (focus (intro W hSW; clear hSW; go_simp; (try (with_reducible rfl)))); (try simp only [Act.put, List.getElem_toArray, List.getElem_cons_zero, List.getElem_cons_succ, List.setIfInBounds_toArray, List.set_cons_zero, List.set_cons_succ])); (refine inT_read (v := ?_) rfl (Or.inl ⟨by rfl, ?_⟩) ?_; rotate_left 1; (focus (intro W hSW; clear hSW; go_simp; (try (with_reducible rfl)))); (try simp only [Act.put, List.getElem_toArray, List.getElem_cons_zero, List.getElem_cons_succ, List.setIfInBounds_toArray, List.set_cons_zero, List.set_cons_succ])); (refine inT_read (v := ?_) rfl (Or.inl ⟨by rfl, ?_⟩) ?_; rotate_left 1; (focus (intro W hSW; clear hSW; go_simp; (try (with_reducible rfl)))); (try simp only [Act.put, List.getElem_toArray, List.getElem_cons_zero, List.getElem_cons_succ, List.setIfInBounds_toArray, List.set_cons_zero, List.set_cons_succ])); (refine inT_act rfl rfl (fun K' hK => ?_)); (refine op_store_g _ _ _ rfl rfl rfl tyV.sz rfl HC.out (by repeat (first | exact List.Mem.head _ | apply List.Mem.tail)) (by exact PutS.all _ _ rfl) (by repeat (first | exact Upd.here _ _ _ | apply Upd.there)) ?_; intro w' hg hc; (replace HC := hide hc; clear hc); (refine hK _ _ (.inr (⟨HC.out.loc ⟨bS, [.string (bs [60]), .string (bs [61]), .string (bs [62]), .string (bs [60, 61]), .string (bs [35]), .string (bs [62, 61])], 9⟩ (by repeat (first | exact List.Mem.head _ | apply List.Mem.tail)), HC.out.loc ⟨b1, [.int .i64 f, .int .i64 n, .string (bs t)], 23⟩ (by repeat (first | exact List.Mem.head _ | apply List.Mem.tail)), HC.out.loc ⟨b2, [.int .i64 g, .int .i64 m, .string (bs u)], 23⟩ (by repeat (first | exact List.Mem.head _ | apply List.Mem.tail))⟩)) ?_; clear hK K'; (try simp only [Act.put, List.getElem_toArray, List.getElem_cons_zero, List.getElem_cons_succ, List.setIfInBounds_toArray, List.set_cons_zero, List.set_cons_succ]))); (refine inT_read (v := ?_) rfl (Or.inl ⟨by rfl, ?_⟩) ?_; rotate_left 1; (focus (intro W hSW; clear hSW; go_simp; (try (with_reducible rfl)))); (try simp only [Act.put, List.getElem_toArray, List.getElem_cons_zero, List.getElem_cons_succ, List.setIfInBounds_toArray, List.set_cons_zero, List.set_cons_succ])); (refine inT_end ?_))
        (go_wp2_with (first | (refine at_load 3 rfl ?_; refine wl_load_c rfl 3 _ rfl tcI rfl HC.out (by repeat (first | exact List.Mem.head _ | apply List.Mem.tail)) (by repeat (first | exact GetS.cons _ (GetS.nil _) | apply GetS.skip)) ?_) | (refine at_bs 52 rfl ?_; refine wl_bl rfl 52 _ _ rfl 3 [.int .i64 n3] HC.out (by kernel_rfl) ?_; intro bz w' hn hc; (replace HC := hide hc; clear hc)) | (refine wl_ap rfl _ _ rfl apI.1 apI.2 (by decide) (by decide) rfl rfl HC.out rfl rfl (by decide) ?_; intro d c2 w' hc; (replace HC := hide hc; clear hc))))
        exact ⟨⟨4, 4, _, _, rfl, by first | rfl | go_num, rfl, by decide, hide HC.out.drop⟩, by first | decide | (simp [intOf])⟩
    · subst hj
      obtain rfl : k = 4 := hk
      go_wp2
      (replace HC := hide (HC.out.g (d1_g _)); refine wp_region_inT (fun W => W.heap[bS]? = some (.cells ([.string (bs [60]), .string (bs [61]), .string (bs [62]), .string (bs [60, 61]), .string (bs [35]), .string (bs [62, 61])] : List Value).toArray 9 (0, 0)) ∧ W.heap[b1]? = some (.cells ([.int .i64 f, .int .i64 n, .string (bs t)] : List Value).toArray 23 (0, 0)) ∧ W.heap[b2]? = some (.cells ([.int .i64 g, .int .i64 m, .string (bs u)] : List Value).toArray 23 (0, 0))) 99 (.rd 0 (.rd 1 (.rd 2 (.rd 3 (.rd 4 (.rd 5 (.fork 6 (.rd 7 (.rd 8 (.rd 9 (.act 10 (.act 11 (.rd 12 .nil)))))) 10 (.act 6 (.rd 7 (.rd 8 (.rd 9 (.act 11 (.rd 12 .nil)))))))))))))  (by kernel_rfl) (by kernel_rfl) (by kernel_rfl) (by kernel_rfl) (fun _ _ d _ _ h => by cases d <;> exact h) (⟨HC.out.loc ⟨bS, [.string (bs [60]), .string (bs [61]), .string (bs [62]), .string (bs [60, 61]), .string (bs [35]), .string (bs [62, 61])], 9⟩ (by repeat (first | exact List.Mem.head _ | apply List.Mem.tail)), HC.out.loc ⟨b1, [.int .i64 f, .int .i64 n, .string (bs t)], 23⟩ (by repeat (first | exact List.Mem.head _ | apply List.Mem.tail)), HC.out.loc ⟨b2, [.int .i64 g, .int .i64 m, .string (bs u)], 23⟩ (by repeat (first | exact List.Mem.head _ | apply List.Mem.tail))⟩) ?_; (refine inT_read (v := ?_) rfl (Or.inl ⟨by rfl, ?_⟩) ?_; rotate_left 1; (focus (intro W hSW; clear hSW; go_simp; (try (with_reducible rfl)))); (try simp only [Act.put, List.getElem_toArray, List.getElem_cons_zero, List.getElem_cons_succ, List.setIfInBounds_toArray, List.set_cons_zero, List.set_cons_succ])); (refine inT_read (v := ?_) rfl (Or.inl ⟨by rfl, ?_⟩) ?_; rotate_left 1; (focus (intro W hSW; clear hSW; go_simp; (try (with_reducible rfl)))); (try simp only [Act.put, List.getElem_toArray, List.getElem_cons_zero, List.getElem_cons_succ, List.setIfInBounds_toArray, List.set_cons_zero, List.set_cons_succ])); (refine inT_read (v := ?_) rfl (Or.inl ⟨by rfl, ?_⟩) ?_; rotate_left 1; (focus (intro W hSW; clear hSW; go_simp; (try (with_reducible rfl)))); (try simp only [Act.put, List.getElem_toArray, List.getElem_cons_zero, List.getElem_cons_succ, List.setIfInBounds_toArray, List.set_cons_zero, List.set_cons_succ])); (refine inT_read rfl (yl_cell tcT rfl rfl rfl (fun W hW => cell_of_row _ _ _ _ _ _ hW.1)) ?_; (try simp only [Act.put, List.getElem_toArray, List.getElem_cons_zero, List.getElem_cons_succ, List.setIfInBounds_toArray, List.set_cons_zero, List.set_cons_succ])); (refine inT_read rfl (yl_load rfl rfl rfl (fun W hW => load_of hW.2.1)) ?_; (try simp only [Act.put, List.getElem_toArray, List.getElem_cons_zero, List.getElem_cons_succ, List.setIfInBounds_toArray, List.set_cons_zero, List.set_cons_succ])); (refine inT_read rfl (yl_load rfl rfl rfl (fun W hW => load_of hW.2.2)) ?_; (try simp only [Act.put, List.getElem_toArray, List.getElem_cons_zero, List.getElem_cons_succ, List.setIfInBounds_toArray, List.set_cons_zero, List.set_cons_succ])))
      (refine inT_fork rfl rfl rfl rfl (fun K' hK => ?_) (fun K' hK => ?_))
      · ((go_simp; refine (H4.out _).mono ?_; rintro e w1 ⟨rfl, hg⟩; (replace HC := hide (HC.out.g hg); clear hg); (refine hK _ _ (.inr (⟨HC.out.loc ⟨bS, [.string (bs [60]), .string (bs [61]), .string (bs [62]), .string (bs [60, 61]), .string (bs [35]), .string (bs [62, 61])], 9⟩ (by repeat (first | exact List.Mem.head _ | apply List.Mem.tail)), HC.out.loc ⟨b1, [.int .i64 f, .int .i64 n, .string (bs t)], 23⟩ (by repeat (first | exact List.Mem.head _ | apply List.Mem.tail)), HC.out.loc ⟨b2, [.int .i64 g, .int .i64 m, .string (bs u)], 23⟩ (by repeat (first | exact List.Mem.head _ | apply List.Mem.tail))⟩)) ?_; clear hK K'; (try simp only [Act.put, List.getElem_toArray, List.getElem_cons_zero, List.getElem_cons_succ, List.setIfInBounds_toArray, List.set_cons_zero, List.set_cons_succ]))); (refine inT_read (v := ?_) rfl (Or.inl ⟨by rfl, ?_⟩) ?_; rotate_left 1; (focus (intro W hSW; clear hSW; go_simp; (try (with_reducible rfl)))); (try simp only [Act.put, List.getElem_toArray, List.getElem_cons_zero, List.getElem_cons_succ, List.setIfInBounds_toArray, List.set_cons_zero, List.set_cons_succ])); (refine inT_read (v := ?_) rfl (Or.inl ⟨by rfl, ?_⟩) ?_; rotate_left 1; (focus (intro W hSW; clear hSW; go_simp; (try (with_reducible rfl)))); (try simp only [Act.put, List.getElem_toArray, List.getElem_cons_zero, List.getElem_cons_succ, List.setIfInBounds_toArray, List.set_cons_zero, List.set_cons_succ])); (refine inT_read (v := ?_) rfl (Or.inl ⟨by rfl, ?_⟩) ?_; rotate_left 1; (focus (intro W hSW; clear hSW; go_simp; (try (with_reducible rfl)))); (try simp only [Act.put, List.getElem_toArray, List.getElem_cons_zero, List.getElem_cons_succ, List.setIfInBounds_toArray, List.set_cons_zero, List.set_cons_succ])); (refine inT_act rfl rfl (fun K' hK => ?_)); (refine op_alloc 23 rfl zV HC.out ?_; intro b3 w' hn hg hc; (replace HC := hide hc; clear hc); (refine hK _ _ (.inr (⟨HC.out.loc ⟨bS, [.string (bs [60]), .string (bs [61]), .string (bs [62]), .string (bs [60, 61]), .string (bs [35]), .string (bs [62, 61])], 9⟩ (by repeat (first | exact List.Mem.head _ | apply List.Mem.tail)), HC.out.loc ⟨b1, [.int .i64 f, .int .i64 n, .string (bs t)], 23⟩ (by repeat (first | exact List.Mem.head _ | apply List.Mem.tail)), HC.out.loc ⟨b2, [.int .i64 g, .int .i64 m, .string (bs u)], 23⟩ (by repeat (first | exact List.Mem.head _ | apply List.Mem.tail))⟩)) ?_; clear hK K'; (try simp only [Act.put, List.getElem_toArray, List.getElem_cons_zero, List.getElem_cons_succ, List.setIfInBounds_toArray, List.set_cons_zero, List.set_cons_succ]))); (refine inT_act rfl rfl (fun K' hK => ?_)); (refine op_store_g _ _ _ rfl rfl rfl tyV.sz rfl HC.out (by repeat (first | exact List.Mem.head _ | apply List.Mem.tail)) (by exact PutS.all _ _ rfl) (by repeat (first | exact Upd.here _ _ _ | apply Upd.there)) ?_; intro w' hg hc; (replace HC := hide hc; clear hc); (refine hK _ _ (.inr (⟨HC.out.loc ⟨bS, [.string (bs [60]), .string (bs [61]), .string (bs [62]), .string (bs [60, 61]), .string (bs [35]), .string (bs [62, 61])], 9⟩ (by repeat (first | exact List.Mem.head _ | apply List.Mem.tail)), HC.out.loc ⟨b1, [.int .i64 f, .int .i64 n, .string (bs t)], 23⟩ (by repeat (first | exact List.Mem.head _ | apply List.Mem.tail)), HC.out.loc ⟨b2, [.int .i64 g, .int .i64 m, .string (bs u)], 23⟩ (by repeat (first | exact List.Mem.head _ | apply List.Mem.tail))⟩)) ?_; clear hK K'; (try simp only [Act.put, List.getElem_toArray, List.getElem_cons_zero, List.getElem_cons_succ, List.setIfInBounds_toArray, List.set_cons_zero, List.set_cons_succ]))); (refine inT_read (v := ?_) rfl (Or.inl ⟨by rfl, ?_⟩) ?_; rotate_left 1; (focus (intro W hSW; clear hSW; go_simp; (try (with_reducible rfl)))); (try simp only [Act.put, List.getElem_toArray, List.getElem_cons_zero, List.getElem_cons_succ, List.setIfInBounds_toArray, List.set_cons_zero, List.set_cons_succ])); (refine inT_end ?_))
        (go_wp2_with (first | (refine at_load 3 rfl ?_; refine wl_load_c rfl 3 _ rfl tcI rfl HC.out (by repeat (first | exact List.Mem.head _ | apply List.Mem.tail)) (by repeat (first | exact GetS.cons _ (GetS.nil _) | apply GetS.skip)) ?_) | (refine at_bs 52 rfl ?_; refine wl_bl rfl 52 _ _ rfl 3 [.int .i64 n4] HC.out (by kernel_rfl) ?_; intro bz w' hn hc; (replace HC := hide hc; clear hc)) | (refine wl_ap rfl _ _ rfl apI.1 apI.2 (by decide) (by decide) rfl rfl HC.out rfl rfl (by decide) ?_; intro d c2 w' hc; (replace HC := hide hc; clear hc))))
        exact ⟨⟨5, 5, _, _, rfl, by first | rfl | go_num, rfl, by decide, hide HC.out.drop⟩, by first | decide | (simp [intOf])⟩
      · ((refine op_alloc 23 rfl zV HC.out ?_; intro b3 w' hn hg hc; (replace HC := hide hc; clear hc); (refine hK _ _ (.inr (⟨HC.out.loc ⟨bS, [.string (bs [60]), .string (bs [61]), .string (bs [62]), .string (bs [60, 61]), .string (bs [35]), .string (bs [62, 61])], 9⟩ (by repeat (first | exact List.Mem.head _ | apply List.Mem.tail)), HC.out.loc ⟨b1, [.int .i64 f, .int .i64 n, .string (bs t)], 23⟩ (by repeat (first | exact List.Mem.head _ | apply List.Mem.tail)), HC.out.loc ⟨b2, [.int .i64 g, .int .i64 m, .string (bs u)], 23⟩ (by repeat (first | exact List.Mem.head _ | apply List.Mem.tail))⟩)) ?_; clear hK K'; (try simp only [Act.put, List.getElem_toArray, List.getElem_cons_zero, List.getElem_cons_succ, List.setIfInBounds_toArray, List.set_cons_zero, List.set_cons_succ]))); (refine inT_act rfl rfl (fun K' hK => ?_)); (go_simp; refine (H4.out _).mono ?_; rintro e w1 ⟨rfl, hg⟩; (replace HC := hide (HC.out.g hg); clear hg); (refine hK _ _ (.inr (⟨HC.out.loc ⟨bS, [.string (bs [60]), .string (bs [61]), .string (bs [62]), .string (bs [60, 61]), .string (bs [35]), .string (bs [62, 61])], 9⟩ (by repeat (first | exact List.Mem.head _ | apply List.Mem.tail)), HC.out.loc ⟨b1, [.int .i64 f, .int .i64 n, .string (bs t)], 23⟩ (by repeat (first | exact List.Mem.head _ | apply List.Mem.tail)), HC.out.loc ⟨b2, [.int .i64 g, .int .i64 m, .string (bs u)], 23⟩ (by repeat (first | exact List.Mem.head _ | apply List.Mem.tail))⟩)) ?_; clear hK K'; (try simp only [Act.put, List.getElem_toArray, List.getElem_cons_zero, List.getElem_cons_succ, List.setIfInBounds_toArray, List.set_cons_zero, List.set_cons_succ]))); (refine inT_read (v := ?_) rfl (Or.inl ⟨by rfl, ?_⟩) ?_; rotate_left 1; (focus (intro W hSW; clear hSW; go_simp; (try (with_reducible rfl)))); (try simp only [Act.put, List.getElem_toArray, List.getElem_cons_zero, List.getElem_cons_succ, List.setIfInBounds_toArray, List.set_cons_zero, List.set_cons_succ])); (refine inT_read (v := ?_) rfl (Or.inl ⟨by rfl, ?_⟩) ?_; rotate_left 1; (focus (intro W hSW; clear hSW; go_simp; (try (with_reducible rfl)))); (try simp only [Act.put, List.getElem_toArray, List.getElem_cons_zero, List.getElem_cons_succ, List.setIfInBounds_toArray, List.set_cons_zero, List.set_cons_succ])); (refine inT_read (v := ?_) rfl (Or.inl ⟨by rfl, ?_⟩) ?_; rotate_left 1; (focus (intro W hSW; clear hSW; go_simp; (try (with_reducible rfl)))); (try simp only [Act.put, List.getElem_toArray, List.getElem_cons_zero, List.getElem_cons_succ, List.setIfInBounds_toArray, List.set_cons_zero, List.set_cons_succ])); (refine inT_act rfl rfl (fun K' hK => ?_)); (refine op_store_g _ _ _ rfl rfl rfl tyV.sz rfl HC.out (by repeat (first | exact List.Mem.head _ | apply List.Mem.tail)) (by exact PutS.all _ _ rfl) (by repeat (first | exact Upd.here _ _ _ | apply Upd.there)) ?_; intro w' hg hc; (replace HC := hide hc; clear hc); (refine hK _ _ (.inr (⟨HC.out.loc ⟨bS, [.string (bs [60]), .string (bs [61]), .string (bs [62]), .string (bs [60, 61]), .string (bs [35]), .string (bs [62, 61])], 9⟩ (by repeat (first | exact List.Mem.head _ | apply List.Mem.tail)), HC.out.loc ⟨b1, [.int .i64 f, .int .i64 n, .string (bs t)], 23⟩ (by repeat (first | exact List.Mem.head _ | apply List.Mem.tail)), HC.out.loc ⟨b2, [.int .i64 g, .int .i64 m, .string (bs u)], 23⟩ (by repeat (first | exact List.Mem.head _ | apply List.Mem.tail))⟩)) ?_; clear hK K'; (try simp only [Act.put, List.getElem_toArray, List.getElem_cons_zero, List.getElem_cons_succ, List.setIfInBounds_toArray, List.set_cons_zero, List.set_cons_succ]))); (refine inT_read (v := ?_) rfl (Or.inl ⟨by rfl, ?_⟩) ?_; rotate_left 1; (focus (intro W hSW; clear hSW; go_simp; (try (with_reducible rfl)))); (try simp only [Act.put, List.getElem_toArray, List.getElem_cons_zero, List.getElem_cons_succ, List.setIfInBounds_toArray, List.set_cons_zero, List.set_cons_succ])); (refine inT_end ?_))
        (go_wp2_with (first | (refine at_load 3 rfl ?_; refine wl_load_c rfl 3 _ rfl tcI rfl HC.out (by repeat (first | exact List.Mem.head _ | apply List.Mem.tail)) (by repeat (first | exact GetS.cons _ (GetS.nil _) | apply GetS.skip)) ?_) | (refine at_bs 52 rfl ?_; refine wl_bl rfl 52 _ _ rfl 3 [.int .i64 n4] HC.out (by kernel_rfl) ?_; intro bz w' hn hc; (replace HC := hide hc; clear hc)) | (refine wl_ap rfl _ _ rfl apI.1 apI.2 (by decide) (by decide) rfl rfl HC.out rfl rfl (by decide) ?_; intro d c2 w' hc; (replace HC := hide hc; clear hc))))
        exact ⟨⟨5, 5, _, _, rfl, by first | rfl | go_num, rfl, by decide, hide HC.out.drop⟩, by first | decide | (simp [intOf])⟩
    · subst hj
      obtain rfl : k = 5 := hk
      go_wp2
      (replace HC := hide (HC.out.g (d1_g _)); refine wp_region_inT (fun W => W.heap[bS]? = some (.cells ([.string (bs [60]), .string (bs [61]), .string (bs [62]), .string (bs [60, 61]), .string (bs [35]), .string (bs [62, 61])] : List Value).toArray 9 (0, 0)) ∧ W.heap[b1]? = some (.cells ([.int .i64 f, .int .i64 n, .string (bs t)] : List Value).toArray 23 (0, 0)) ∧ W.heap[b2]? = some (.cells ([.int .i64 g, .int .i64 m, .string (bs u)] : List Value).toArray 23 (0, 0))) 99 (.rd 0 (.rd 1 (.rd 2 (.rd 3 (.rd 4 (.rd 5 (.fork 6 (.rd 7 (.rd 8 (.rd 9 (.act 10 (.act 11 (.rd 12 .nil)))))) 10 (.act 6 (.rd 7 (.rd 8 (.rd 9 (.act 11 (.rd 12 .nil)))))))))))))  (by kernel_rfl) (by kernel_rfl) (by kernel_rfl) (by kernel_rfl) (fun _ _ d _ _ h => by cases d <;> exact h) (⟨HC.out.loc ⟨bS, [.string (bs [60]), .string (bs [61]), .string (bs [62]), .string (bs [60, 61]), .string (bs [35]), .string (bs [62, 61])], 9⟩ (by repeat (first | exact List.Mem.head _ | apply List.Mem.tail)), HC.out.loc ⟨b1, [.int .i64 f, .int .i64 n, .string (bs t)], 23⟩ (by repeat (first | exact List.Mem.head _ | apply List.Mem.tail)), HC.out.loc ⟨b2, [.int .i64 g, .int .i64 m, .string (bs u)], 23⟩ (by repeat (first | exact List.Mem.head _ | apply List.Mem.tail))⟩) ?_; (refine inT_read (v := ?_) rfl (Or.inl ⟨by rfl, ?_⟩) ?_; rotate_left 1; (focus (intro W hSW; clear hSW; go_simp; (try (with_reducible rfl)))); (try simp only [Act.put, List.getElem_toArray, List.getElem_cons_zero, List.getElem_cons_succ, List.setIfInBounds_toArray, List.set_cons_zero, List.set_cons_succ])); (refine inT_read (v := ?_) rfl (Or.inl ⟨by rfl, ?_⟩) ?_; rotate_left 1; (focus (intro W hSW; clear hSW; go_simp; (try (with_reducible rfl)))); (try simp only [Act.put, List.getElem_toArray, List.getElem_cons_zero, List.getElem_cons_succ, List.setIfInBounds_toArray, List.set_cons_zero, List.set_cons_succ])); (refine inT_read (v := ?_) rfl (Or.inl ⟨by rfl, ?_⟩) ?_; rotate_left 1; (focus (intro W hSW; clear hSW; go_simp; (try (with_reducible rfl)))); (try simp only [Act.put, List.getElem_toArray, List.getElem_cons_zero, List.getElem_cons_succ, List.setIfInBounds_toArray, List.set_cons_zero, List.set_cons_succ])); (refine inT_read rfl (yl_cell tcT rfl rfl rfl (fun W hW => cell_of_row _ _ _ _ _ _ hW.1)) ?_; (try simp only [Act.put, List.getElem_toArray, List.getElem_cons_zero, List.getElem_cons_succ, List.setIfInBounds_toArray, List.set_cons_zero, List.set_cons_succ])); (refine inT_read rfl (yl_load rfl rfl rfl (fun W hW => load_of hW.2.1)) ?_; (try simp only [Act.put, List.getElem_toArray, List.getElem_cons_zero, List.getElem_cons_succ, List.setIfInBounds_toArray, List.set_cons_zero, List.set_cons_succ])); (refine inT_read rfl (yl_load rfl rfl rfl (fun W hW => load_of hW.2.2)) ?_; (try simp only [Act.put, List.getElem_toArray, List.getElem_cons_zero, List.getElem_cons_succ, List.setIfInBounds_toArray, List.set_cons_zero, List.set_cons_succ])))
      (refine inT_fork rfl rfl rfl rfl (fun K' hK => ?_) (fun K' hK => ?_))
      · ((go_simp; refine (H5.out _).mono ?_; rintro e w1 ⟨rfl, hg⟩; (replace HC := hide (HC.out.g hg); clear hg); (refine hK _ _ (.inr (⟨HC.out.loc ⟨bS, [.string (bs [60]), .string (bs [61]), .string (bs [62]), .string (bs [60, 61]), .string (bs [35]), .string (bs [62, 61])], 9⟩ (by repeat (first | exact List.Mem.head _ | apply List.Mem.tail)), HC.out.loc ⟨b1, [.int .i64 f, .int .i64 n, .string (bs t)], 23⟩ (by repeat (first | exact List.Mem.head _ | apply List.Mem.tail)), HC.out.loc ⟨b2, [.int .i64 g, .int .i64 m, .string (bs u)], 23⟩ (by repeat (first | exact List.Mem.head _ | apply List.Mem.tail))⟩)) ?_; clear hK K'; (try simp only [Act.put, List.getElem_toArray, List.getElem_cons_zero, List.getElem_cons_succ, List.setIfInBounds_toArray, List.set_cons_zero, List.set_cons_succ]))); (refine inT_read (v := ?_) rfl (Or.inl ⟨by rfl, ?_⟩) ?_; rotate_left 1; (focus (intro W hSW; clear hSW; go_simp; (try (with_reducible rfl)))); (try simp only [Act.put, List.getElem_toArray, List.getElem_cons_zero, List.getElem_cons_succ, List.setIfInBounds_toArray, List.set_cons_zero, List.set_cons_succ])); (refine inT_read (v := ?_) rfl (Or.inl ⟨by rfl, ?_⟩) ?_; rotate_left 1; (focus (intro W hSW; clear hSW; go_simp; (try (with_reducible rfl)))); (try simp only [Act.put, List.getElem_toArray, List.getElem_cons_zero, List.getElem_cons_succ, List.setIfInBounds_toArray, List.set_cons_zero, List.set_cons_succ])); (refine inT_read (v := ?_) rfl (Or.inl ⟨by rfl, ?_⟩) ?_; rotate_left 1; (focus (intro W hSW; clear hSW; go_simp; (try (with_reducible rfl)))); (try simp only [Act.put, List.getElem_toArray, List.getElem_cons_zero, List.getElem_cons_succ, List.setIfInBounds_toArray, List.set_cons_zero, List.set_cons_succ])); (refine inT_act rfl rfl (fun K' hK => ?_)); (refine op_alloc 23 rfl zV HC.out ?_; intro b3 w' hn hg hc; (replace HC := hide hc; clear hc); (refine hK _ _ (.inr (⟨HC.out.loc ⟨bS, [.string (bs [60]), .string (bs [61]), .string (bs [62]), .string (bs [60, 61]), .string (bs [35]), .string (bs [62, 61])], 9⟩ (by repeat (first | exact List.Mem.head _ | apply List.Mem.tail)), HC.out.loc ⟨b1, [.int .i64 f, .int .i64 n, .string (bs t)], 23⟩ (by repeat (first | exact List.Mem.head _ | apply List.Mem.tail)), HC.out.loc ⟨b2, [.int .i64 g, .int .i64 m, .string (bs u)], 23⟩ (by repeat (first | exact List.Mem.head _ | apply List.Mem.tail))⟩)) ?_; clear hK K'; (try simp only [Act.put, List.getElem_toArray, List.getElem_cons_zero, List.getElem_cons_succ, List.setIfInBounds_toArray, List.set_cons_zero, List.set_cons_succ]))); (refine inT_act rfl rfl (fun K' hK => ?_)); (refine op_store_g _ _ _ rfl rfl rfl tyV.sz rfl HC.out (by repeat (first | exact List.Mem.head _ | apply List.Mem.tail)) (by exact PutS.all _ _ rfl) (by repeat (first | exact Upd.here _ _ _ | apply Upd.there)) ?_; intro w' hg hc; (replace HC := hide hc; clear hc); (refine hK _ _ (.inr (⟨HC.out.loc ⟨bS, [.string (bs [60]), .string (bs [61]), .string (bs [62]), .string (bs [60, 61]), .string (bs [35]), .string (bs [62, 61])], 9⟩ (by repeat (first | exact List.Mem.head _ | apply List.Mem.tail)), HC.out.loc ⟨b1, [.int .i64 f, .int .i64 n, .string (bs t)], 23⟩ (by repeat (first | exact List.Mem.head _ | apply List.Mem.tail)), HC.out.loc ⟨b2, [.int .i64 g, .int .i64 m, .string (bs u)], 23⟩ (by repeat (first | exact List.Mem.head _ | apply List.Mem.tail))⟩)) ?_; clear hK K'; (try simp only [Act.put, List.getElem_toArray, List.getElem_cons_zero, List.getElem_cons_succ, List.setIfInBounds_toArray, List.set_cons_zero, List.set_cons_succ]))); (refine inT_read (v := ?_) rfl (Or.inl ⟨by rfl, ?_⟩) ?_; rotate_left 1; (focus (intro W hSW; clear hSW; go_simp; (try (with_reducible rfl)))); (try simp only [Act.put, List.getElem_toArray, List.getElem_cons_zero, List.getElem_cons_succ, List.setIfInBounds_toArray, List.set_cons_zero, List.set_cons_succ])); (refine inT_end ?_))
        (go_wp2_with (first | (refine at_load 3 rfl ?_; refine wl_load_c rfl 3 _ rfl tcI rfl HC.out (by repeat (first | exact List.Mem.head _ | apply List.Mem.tail)) (by repeat (first | exact GetS.cons _ (GetS.nil _) | apply GetS.skip)) ?_) | (refine at_bs 52 rfl ?_; refine wl_bl rfl 52 _ _ rfl 3 [.int .i64 n5] HC.out (by kernel_rfl) ?_; intro bz w' hn hc; (replace HC := hide hc; clear hc)) | (refine wl_ap rfl _ _ rfl apI.1 apI.2 (by decide) (by decide) rfl rfl HC.out rfl rfl (by decide) ?_; intro d c2 w' hc; (replace HC := hide hc; clear hc))))
        exact ⟨⟨6, 6, _, _, rfl, by first | rfl | go_num, rfl, by decide, hide HC.out.drop⟩, by first | decide | (simp [intOf])⟩
      · ((refine op_alloc 23 rfl zV HC.out ?_; intro b3 w' hn hg hc; (replace HC := hide hc; clear hc); (refine hK _ _ (.inr (⟨HC.out.loc ⟨bS, [.string (bs [60]), .string (bs [61]), .string (bs [62]), .string (bs [60, 61]), .string (bs [35]), .string (bs [62, 61])], 9⟩ (by repeat (first | exact List.Mem.head _ | apply List.Mem.tail)), HC.out.loc ⟨b1, [.int .i64 f, .int .i64 n, .string (bs t)], 23⟩ (by repeat (first | exact List.Mem.head _ | apply List.Mem.tail)), HC.out.loc ⟨b2, [.int .i64 g, .int .i64 m, .string (bs u)], 23⟩ (by repeat (first | exact List.Mem.head _ | apply List.Mem.tail))⟩)) ?_; clear hK K'; (try simp only [Act.put, List.getElem_toArray, List.getElem_cons_zero, List.getElem_cons_succ, List.setIfInBounds_toArray, List.set_cons_zero, List.set_cons_succ]))); (refine inT_act rfl rfl (fun K' hK => ?_)); (go_simp; refine (H5.out _).mono ?_; rintro e w1 ⟨rfl, hg⟩; (replace HC := hide (HC.out.g hg); clear hg); (refine hK _ _ (.inr (⟨HC.out.loc ⟨bS, [.string (bs [60]), .string (bs [61]), .string (bs [62]), .string (bs [60, 61]), .string (bs [35]), .string (bs [62, 61])], 9⟩ (by repeat (first | exact List.Mem.head _ | apply List.Mem.tail)), HC.out.loc ⟨b1, [.int .i64 f, .int .i64 n, .string (bs t)], 23⟩ (by repeat (first | exact List.Mem.head _ | apply List.Mem.tail)), HC.out.loc ⟨b2, [.int .i64 g, .int .i64 m, .string (bs u)], 23⟩ (by repeat (first | exact List.Mem.head _ | apply List.Mem.tail))⟩)) ?_; clear hK K'; (try simp only [Act.put, List.getElem_toArray, List.getElem_cons_zero, List.getElem_cons_succ, List.setIfInBounds_toArray, List.set_cons_zero, List.set_cons_succ]))); (refine inT_read (v := ?_) rfl (Or.inl ⟨by rfl, ?_⟩) ?_; rotate_left 1; (focus (intro W hSW; clear hSW; go_simp; (try (with_reducible rfl)))); (try simp only [Act.put, List.getElem_toArray, List.getElem_cons_zero, List.getElem_cons_succ, List.setIfInBounds_toArray, List.set_cons_zero, List.set_cons_succ])); (refine inT_read (v := ?_) rfl (Or.inl ⟨by rfl, ?_⟩) ?_; rotate_left 1; (focus (intro W hSW; clear hSW; go_simp; (try (with_reducible rfl)))); (try simp only [Act.put, List.getElem_toArray, List.getElem_cons_zero, List.getElem_cons_succ, List.setIfInBounds_toArray, List.set_cons_zero, List.set_cons_succ])); (refine inT_read (v := ?_) rfl (Or.inl ⟨by rfl, ?_⟩) ?_; rotate_left 1; (focus (intro W hSW; clear hSW; go_simp; (try (with_reducible rfl)))); (try simp only [Act.put, List.getElem_toArray, List.getElem_cons_zero, List.getElem_cons_succ, List.setIfInBounds_toArray, List.set_cons_zero, List.set_cons_succ])); (refine inT_act rfl rfl (fun K' hK => ?_)); (refine op_store_g _ _ _ rfl rfl rfl tyV.sz rfl HC.out (by repeat (first | exact List.Mem.head _ | apply List.Mem.tail)) (by exact PutS.all _ _ rfl) (by repeat (first | exact Upd.here _ _ _ | apply Upd.there)) ?_; intro w' hg hc; (replace HC := hide hc; clear hc); (refine hK _ _ (.inr (⟨HC.out.loc ⟨bS, [.string (bs [60]), .string (bs [61]), .string (bs [62]), .string (bs [60, 61]), .string (bs [35]), .string (bs [62, 61])], 9⟩ (by repeat (first | exact List.Mem.head _ | apply List.Mem.tail)), HC.out.loc ⟨b1, [.int .i64 f, .int .i64 n, .string (bs t)], 23⟩ (by repeat (first | exact List.Mem.head _ | apply List.Mem.tail)), HC.out.loc ⟨b2, [.int .i64 g, .int .i64 m, .string (bs u)], 23⟩ (by repeat (first | exact List.Mem.head _ | apply List.Mem.tail))⟩)) ?_; clear hK K'; (try simp only [Act.put, List.getElem_toArray, List.getElem_cons_zero, List.getElem_cons_succ, List.setIfInBounds_toArray, List.set_cons_zero, List.set_cons_succ]))); (refine inT_read (v := ?_) rfl (Or.inl ⟨by rfl, ?_⟩) ?_; rotate_left 1; (focus (intro W hSW; clear hSW; go_simp; (try (with_reducible rfl)))); (try simp only [Act.put, List.getElem_toArray, List.getElem_cons_zero, List.getElem_cons_succ, List.setIfInBounds_toArray, List.set_cons_zero, List.set_cons_succ])); (refine inT_end ?_))
        (go_wp2_with (first | (refine at_load 3 rfl ?_; refine wl_load_c rfl 3 _ rfl tcI rfl HC.out (by repeat (first | exact List.Mem.head _ | apply List.Mem.tail)) (by repeat (first | exact GetS.cons _ (GetS.nil _) | apply GetS.skip)) ?_) | (refine at_bs 52 rfl ?_; refine wl_bl rfl 52 _ _ rfl 3 [.int .i64 n5] HC.out (by kernel_rfl) ?_; intro bz w' hn hc; (replace HC := hide hc; clear hc)) | (refine wl_ap rfl _ _ rfl apI.1 apI.2 (by decide) (by decide) rfl rfl HC.out rfl rfl (by decide) ?_; intro d c2 w' hc; (replace HC := hide hc; clear hc))))
        exact ⟨⟨6, 6, _, _, rfl, by first | rfl | go_num, rfl, by decide, hide HC.out.drop⟩, by first | decide | (simp [intOf])⟩
    · subst hj
      obtain rfl : k = 6 := hk
      go_wp2
      replace HC := hide (HC.out.g (d1_g _))
      have hr := HC.out.row _ (.head _)
      obtain ⟨gb, rfl⟩ : ∃ gb, od = some ⟨gb, 0, none⟩ := by
        rcases hr.2 with ⟨_, h0⟩ | ⟨gb, _, _, h1, _⟩
        · cases h0
        · cases h1; exact ⟨gb, rfl⟩
      have c0 := hr.cells (g := gb) rfl 0 (.int .i64 n0) rfl
      have c1 := hr.cells (g := gb) rfl 1 (.int .i64 n1) rfl
      have c2 := hr.cells (g := gb) rfl 2 (.int .i64 n2) rfl
      have c3 := hr.cells (g := gb) rfl 3 (.int .i64 n3) rfl
      have c4 := hr.cells (g := gb) rfl 4 (.int .i64 n4) rfl
      have c5 := hr.cells (g := gb) rfl 5 (.int .i64 n5) rfl
      clear hr
      rcases HQ.out with ⟨rfl, rfl, rfl, rfl, rfl, rfl⟩ | ⟨rfl, rfl, rfl, rfl, rfl, rfl⟩ | ⟨rfl, rfl, rfl, rfl, rfl, rfl⟩
      · clear HQ H0 H1 H2 H3 H4 H5
        refine wp_region_inT (fun W => W.cell? ⟨gb, 0, none⟩ = some (.int .i64 1) ∧ W.cell? ⟨gb, 1, none⟩ = some (.int .i64 0) ∧ W.cell? ⟨gb, 2, none⟩ = some (.int .i64 0) ∧ W.cell? ⟨gb, 3, none⟩ = some (.int .i64 1) ∧ W.cell? ⟨gb, 4, none⟩ = some (.int .i64 1) ∧ W.cell? ⟨gb, 5, none⟩ = some (.int .i64 0)) 99 (.rd 0 (.rd 1 (.rd 2 (.rd 3 (.rd 4 (.rd 5 (.rd 6 (.rd 7 (.rd 8 (.rd 9 (.rd 10 (.rd 11 (.rd 12 (.rd 13 (.rd 14 (.rd 15 (.rd 16 (.rd 17 (.rd 18 (.rd 19 (.rd 20 (.rd 21 (.rd 22 (.rd 23 (.rd 24 (.rd 25 (.rd 26 (.rd 27 (.rd 28 (.rd 29 (.rd 30 (.rd 31 (.rd 32 (.rd 33 (.rd 34 (.rd 35 (.rd 36 (.rd 37 (.rd 38 (.rd 39 (.rd 40 (.rd 41 (.rd 42 (.rd 43 (.rd 44 (.rd 45 (.rd 46 (.rd 47 (.rd 48 (.act 49 (.rd 50 (.rd 51 .nil)))))))))))))))))))))))))))))))))))))))))))))))))))) (by kernel_rfl) (by kernel_rfl) (by kernel_rfl) (by kernel_rfl) (fun _ _ d _ _ h => by cases d <;> exact h) ⟨c0, c1, c2, c3, c4, c5⟩ ?_
        (refine inT_read (v := ?_) rfl (Or.inl ⟨by rfl, ?_⟩) ?_; rotate_left 1; (focus (intro W hSW; clear hSW; go_simp; (try (with_reducible rfl)))); (try simp only [Act.put, List.getElem_toArray, List.getElem_cons_zero, List.getElem_cons_succ, List.setIfInBounds_toArray, List.set_cons_zero, List.set_cons_succ]))
        (refine inT_read (v := ?_) rfl (Or.inl ⟨by rfl, ?_⟩) ?_; rotate_left 1; (focus (intro W hSW; clear hSW; go_simp; (try (with_reducible rfl)))); (try simp only [Act.put, List.getElem_toArray, List.getElem_cons_zero, List.getElem_cons_succ, List.setIfInBounds_toArray, List.set_cons_zero, List.set_cons_succ]))
        (refine inT_read rfl (yl_cell tcI rfl rfl rfl (fun W hW => hW.1)) ?_; (try simp only [Act.put, List.getElem_toArray, List.getElem_cons_zero, List.getElem_cons_succ, List.setIfInBounds_toArray, List.set_cons_zero, List.set_cons_succ]))
        (refine inT_read (v := ?_) rfl (Or.inl ⟨by rfl, ?_⟩) ?_; rotate_left 1; (focus (intro W hSW; clear hSW; go_simp; (try (with_reducible rfl)))); (try simp only [Act.put, List.getElem_toArray, List.getElem_cons_zero, List.getElem_cons_succ, List.setIfInBounds_toArray, List.set_cons_zero, List.set_cons_succ]))
        (refine inT_read (v := ?_) rfl (Or.inl ⟨by rfl, ?_⟩) ?_; rotate_left 1; (focus (intro W hSW; clear hSW; go_simp; (try (with_reducible rfl)))); (try simp only [Act.put, List.getElem_toArray, List.getElem_cons_zero, List.getElem_cons_succ, List.setIfInBounds_toArray, List.set_cons_zero, List.set_cons_succ]))
        (refine inT_read rfl (yl_cell tcI rfl rfl rfl (fun W hW => hW.2.1)) ?_; (try simp only [Act.put, List.getElem_toArray, List.getElem_cons_zero, List.getElem_cons_succ, List.setIfInBounds_toArray, List.set_cons_zero, List.set_cons_succ]))
        (refine inT_read (v := ?_) rfl (Or.inl ⟨by rfl, ?_⟩) ?_; rotate_left 1; (focus (intro W hSW; clear hSW; go_simp; (try (with_reducible rfl)))); (try simp only [Act.put, List.getElem_toArray, List.getElem_cons_zero, List.getElem_cons_succ, List.setIfInBounds_toArray, List.set_cons_zero, List.set_cons_succ]))
        (refine inT_read (v := ?_) rfl (Or.inl ⟨by rfl, ?_⟩) ?_; rotate_left 1; (focus (intro W hSW; clear hSW; go_simp; (try (with_reducible rfl)))); (try simp only [Act.put, List.getElem_toArray, List.getElem_cons_zero, List.getElem_cons_succ, List.setIfInBounds_toArray, List.set_cons_zero, List.set_cons_succ]))
        (refine inT_read (v := ?_) rfl (Or.inl ⟨by rfl, ?_⟩) ?_; rotate_left 1; (focus (intro W hSW; clear hSW; go_simp; (try (with_reducible rfl)))); (try simp only [Act.put, List.getElem_toArray, List.getElem_cons_zero, List.getElem_cons_succ, List.setIfInBounds_toArray, List.set_cons_zero, List.set_cons_succ]))
        (refine inT_read rfl (yl_cell tcI rfl rfl rfl (fun W hW => hW.2.2.1)) ?_; (try simp only [Act.put, List.getElem_toArray, List.getElem_cons_zero, List.getElem_cons_succ, List.setIfInBounds_toArray, List.set_cons_zero, List.set_cons_succ]))
        (refine inT_read (v := ?_) rfl (Or.inl ⟨by rfl, ?_⟩) ?_; rotate_left 1; (focus (intro W hSW; clear hSW; go_simp; (try (with_reducible rfl)))); (try simp only [Act.put, List.getElem_toArray, List.getElem_cons_zero, List.getElem_cons_succ, List.setIfInBounds_toArray, List.set_cons_zero, List.set_cons_succ]))
        (refine inT_read (v := ?_) rfl (Or.inl ⟨by rfl, ?_⟩) ?_; rotate_left 1; (focus (intro W hSW; clear hSW; go_simp; (try (with_reducible rfl)))); (try simp only [Act.put, List.getElem_toArray, List.getElem_cons_zero, List.getElem_cons_succ, List.setIfInBounds_toArray, List.set_cons_zero, List.set_cons_succ]))
        (refine inT_read (v := ?_) rfl (Or.inl ⟨by rfl, ?_⟩) ?_; rotate_left 1; (focus (intro W hSW; clear hSW; go_simp; (try (with_reducible rfl)))); (try simp only [Act.put, List.getElem_toArray, List.getElem_cons_zero, List.getElem_cons_succ, List.setIfInBounds_toArray, List.set_cons_zero, List.set_cons_succ]))
        (refine inT_read (v := ?_) rfl (Or.inl ⟨by rfl, ?_⟩) ?_; rotate_left 1; (focus (intro W hSW; clear hSW; go_simp; (try (with_reducible rfl)))); (try simp only [Act.put, List.getElem_toArray, List.getElem_cons_zero, List.getElem_cons_succ, List.setIfInBounds_toArray, List.set_cons_zero, List.set_cons_succ]))
        (refine inT_read (v := ?_) rfl (Or.inl ⟨by rfl, ?_⟩) ?_; rotate_left 1; (focus (intro W hSW; clear hSW; go_simp; (try (with_reducible rfl)))); (try simp only [Act.put, List.getElem_toArray, List.getElem_cons_zero, List.getElem_cons_succ, List.setIfInBounds_toArray, List.set_cons_zero, List.set_cons_succ]))
        (refine inT_read rfl (yl_cell tcI rfl rfl rfl (fun W hW => hW.2.2.2.1)) ?_; (try simp only [Act.put, List.getElem_toArray, List.getElem_cons_zero, List.getElem_cons_succ, List.setIfInBounds_toArray, List.set_cons_zero, List.set_cons_succ]))
        (refine inT_read (v := ?_) rfl (Or.inl ⟨by rfl, ?_⟩) ?_; rotate_left 1; (focus (intro W hSW; clear hSW; go_simp; (try (with_reducible rfl)))); (try simp only [Act.put, List.getElem_toArray, List.getElem_cons_zero, List.getElem_cons_succ, List.setIfInBounds_toArray, List.set_cons_zero, List.set_cons_succ]))
        (refine inT_read (v := ?_) rfl (Or.inl ⟨by rfl, ?_⟩) ?_; rotate_left 1; (focus (intro W hSW; clear hSW; go_simp; (try (with_reducible rfl)))); (try simp only [Act.put, List.getElem_toArray, List.getElem_cons_zero, List.getElem_cons_succ, List.setIfInBounds_toArray, List.set_cons_zero, List.set_cons_succ]))
        (refine inT_read rfl (yl_cell tcI rfl rfl rfl (fun W hW => hW.1)) ?_; (try simp only [Act.put, List.getElem_toArray, List.getElem_cons_zero, List.getElem_cons_succ, List.setIfInBounds_toArray, List.set_cons_zero, List.set_cons_succ]))
        (refine inT_read (v := ?_) rfl (Or.inl ⟨by rfl, ?_⟩) ?_; rotate_left 1; (focus (intro W hSW; clear hSW; go_simp; (try (with_reducible rfl)))); (try simp only [Act.put, List.getElem_toArray, List.getElem_cons_zero, List.getElem_cons_succ, List.setIfInBounds_toArray, List.set_cons_zero, List.set_cons_succ]))
        (refine inT_read (v := ?_) rfl (Or.inl ⟨by rfl, ?_⟩) ?_; rotate_left 1; (focus (intro W hSW; clear hSW; go_simp; (try (with_reducible rfl)))); (try simp only [Act.put, List.getElem_toArray, List.getElem_cons_zero, List.getElem_cons_succ, List.setIfInBounds_toArray, List.set_cons_zero, List.set_cons_succ]))
        (refine inT_read rfl (yl_cell tcI rfl rfl rfl (fun W hW => hW.2.1)) ?_; (try simp only [Act.put, List.getElem_toArray, List.getElem_cons_zero, List.getElem_cons_succ, List.setIfInBounds_toArray, List.set_cons_zero, List.set_cons_succ]))
        (refine inT_read (v := ?_) rfl (Or.inl ⟨by rfl, ?_⟩) ?_; rotate_left 1; (focus (intro W hSW; clear hSW; go_simp; (try (with_reducible rfl)))); (try simp only [Act.put, List.getElem_toArray, List.getElem_cons_zero, List.getElem_cons_succ, List.setIfInBounds_toArray, List.set_cons_zero, List.set_cons_succ]))
        (refine inT_read (v := ?_) rfl (Or.inl ⟨by rfl, ?_⟩) ?_; rotate_left 1; (focus (intro W hSW; clear hSW; go_simp; (try (with_reducible rfl)))); (try simp only [Act.put, List.getElem_toArray, List.getElem_cons_zero, List.getElem_cons_succ, List.setIfInBounds_toArray, List.set_cons_zero, List.set_cons_succ]))
        (refine inT_read (v := ?_) rfl (Or.inl ⟨by rfl, ?_⟩) ?_; rotate_left 1; (focus (intro W hSW; clear hSW; go_simp; (try (with_reducible rfl)))); (try simp only [Act.put, List.getElem_toArray, List.getElem_cons_zero, List.getElem_cons_succ, List.setIfInBounds_toArray, List.set_cons_zero, List.set_cons_succ]))
        (refine inT_read (v := ?_) rfl (Or.inl ⟨by rfl, ?_⟩) ?_; rotate_left 1; (focus (intro W hSW; clear hSW; go_simp; (try (with_reducible rfl)))); (try simp only [Act.put, List.getElem_toArray, List.getElem_cons_zero, List.getElem_cons_succ, List.setIfInBounds_toArray, List.set_cons_zero, List.set_cons_succ]))
        (refine inT_read (v := ?_) rfl (Or.inl ⟨by rfl, ?_⟩) ?_; rotate_left 1; (focus (intro W hSW; clear hSW; go_simp; (try (with_reducible rfl)))); (try simp only [Act.put, List.getElem_toArray, List.getElem_cons_zero, List.getElem_cons_succ, List.setIfInBounds_toArray, List.set_cons_zero, List.set_cons_succ]))
        (refine inT_read (v := ?_) rfl (Or.inl ⟨by rfl, ?_⟩) ?_; rotate_left 1; (focus (intro W hSW; clear hSW; go_simp; (try (with_reducible rfl)))); (try simp only [Act.put, List.getElem_toArray, List.getElem_cons_zero, List.getElem_cons_succ, List.setIfInBounds_toArray, List.set_cons_zero, List.set_cons_succ]))
        (refine inT_read rfl (yl_cell tcI rfl rfl rfl (fun W hW => hW.2.2.2.2.1)) ?_; (try simp only [Act.put, List.getElem_toArray, List.getElem_cons_zero, List.getElem_cons_succ, List.setIfInBounds_toArray, List.set_cons_zero, List.set_cons_succ]))
        (refine inT_read (v := ?_) rfl (Or.inl ⟨by rfl, ?_⟩) ?_; rotate_left 1; (focus (intro W hSW; clear hSW; go_simp; (try (with_reducible rfl)))); (try simp only [Act.put, List.getElem_toArray, List.getElem_cons_zero, List.getElem_cons_succ, List.setIfInBounds_toArray, List.set_cons_zero, List.set_cons_succ]))
        (refine inT_read (v := ?_) rfl (Or.inl ⟨by rfl, ?_⟩) ?_; rotate_left 1; (focus (intro W hSW; clear hSW; go_simp; (try (with_reducible rfl)))); (try simp only [Act.put, List.getElem_toArray, List.getElem_cons_zero, List.getElem_cons_succ, List.setIfInBounds_toArray, List.set_cons_zero, List.set_cons_succ]))
        (refine inT_read rfl (yl_cell tcI rfl rfl rfl (fun W hW => hW.2.1)) ?_; (try simp only [Act.put, List.getElem_toArray, List.getElem_cons_zero, List.getElem_cons_succ, List.setIfInBounds_toArray, List.set_cons_zero, List.set_cons_succ]))
        (refine inT_read (v := ?_) rfl (Or.inl ⟨by rfl, ?_⟩) ?_; rotate_left 1; (focus (intro W hSW; clear hSW; go_simp; (try (with_reducible rfl)))); (try simp only [Act.put, List.getElem_toArray, List.getElem_cons_zero, List.getElem_cons_succ, List.setIfInBounds_toArray, List.set_cons_zero, List.set_cons_succ]))
        (refine inT_read (v := ?_) rfl (Or.inl ⟨by rfl, ?_⟩) ?_; rotate_left 1; (focus (intro W hSW; clear hSW; go_simp; (try (with_reducible rfl)))); (try simp only [Act.put, List.getElem_toArray, List.getElem_cons_zero, List.getElem_cons_succ, List.setIfInBounds_toArray, List.set_cons_zero, List.set_cons_succ]))
        (refine inT_read (v := ?_) rfl (Or.inl ⟨by rfl, ?_⟩) ?_; rotate_left 1; (focus (intro W hSW; clear hSW; go_simp; (try (with_reducible rfl)))); (try simp only [Act.put, List.getElem_toArray, List.getElem_cons_zero, List.getElem_cons_succ, List.setIfInBounds_toArray, List.set_cons_zero, List.set_cons_succ]))
        (refine inT_read (v := ?_) rfl (Or.inl ⟨by rfl, ?_⟩) ?_; rotate_left 1; (focus (intro W hSW; clear hSW; go_simp; (try (with_reducible rfl)))); (try simp only [Act.put, List.getElem_toArray, List.getElem_cons_zero, List.getElem_cons_succ, List.setIfInBounds_toArray, List.set_cons_zero, List.set_cons_succ]))
        (refine inT_read (v := ?_) rfl (Or.inl ⟨by rfl, ?_⟩) ?_; rotate_left 1; (focus (intro W hSW; clear hSW; go_simp; (try (with_reducible rfl)))); (try simp only [Act.put, List.getElem_toArray, List.getElem_cons_zero, List.getElem_cons_succ, List.setIfInBounds_toArray, List.set_cons_zero, List.set_cons_succ]))
        (refine inT_read (v := ?_) rfl (Or.inl ⟨by rfl, ?_⟩) ?_; rotate_left 1; (focus (intro W hSW; clear hSW; go_simp; (try (with_reducible rfl)))); (try simp only [Act.put, List.getElem_toArray, List.getElem_cons_zero, List.getElem_cons_succ, List.setIfInBounds_toArray, List.set_cons_zero, List.set_cons_succ]))
        (refine inT_read rfl (yl_cell tcI rfl rfl rfl (fun W hW => hW.2.2.2.2.2)) ?_; (try simp only [Act.put, List.getElem_toArray, List.getElem_cons_zero, List.getElem_cons_succ, List.setIfInBounds_toArray, List.set_cons_zero, List.set_cons_succ]))
        (refine inT_read (v := ?_) rfl (Or.inl ⟨by rfl, ?_⟩) ?_; rotate_left 1; (focus (intro W hSW; clear hSW; go_simp; (try (with_reducible rfl)))); (try simp only [Act.put, List.getElem_toArray, List.getElem_cons_zero, List.getElem_cons_succ, List.setIfInBounds_toArray, List.set_cons_zero, List.set_cons_succ]))
        (refine inT_read (v := ?_) rfl (Or.inl ⟨by rfl, ?_⟩) ?_; rotate_left 1; (focus (intro W hSW; clear hSW; go_simp; (try (with_reducible rfl)))); (try simp only [Act.put, List.getElem_toArray, List.getElem_cons_zero, List.getElem_cons_succ, List.setIfInBounds_toArray, List.set_cons_zero, List.set_cons_succ]))
        (refine inT_read rfl (yl_cell tcI rfl rfl rfl (fun W hW => hW.2.1)) ?_; (try simp only [Act.put, List.getElem_toArray, List.getElem_cons_zero, List.getElem_cons_succ, List.setIfInBounds_toArray, List.set_cons_zero, List.set_cons_succ]))
        (refine inT_read (v := ?_) rfl (Or.inl ⟨by rfl, ?_⟩) ?_; rotate_left 1; (focus (intro W hSW; clear hSW; go_simp; (try (with_reducible rfl)))); (try simp only [Act.put, List.getElem_toArray, List.getElem_cons_zero, List.getElem_cons_succ, List.setIfInBounds_toArray, List.set_cons_zero, List.set_cons_succ]))
        (refine inT_read (v := ?_) rfl (Or.inl ⟨by rfl, ?_⟩) ?_; rotate_left 1; (focus (intro W hSW; clear hSW; go_simp; (try (with_reducible rfl)))); (try simp only [Act.put, List.getElem_toArray, List.getElem_cons_zero, List.getElem_cons_succ, List.setIfInBounds_toArray, List.set_cons_zero, List.set_cons_succ]))
        (refine inT_read rfl (yl_cell tcI rfl rfl rfl (fun W hW => hW.2.2.1)) ?_; (try simp only [Act.put, List.getElem_toArray, List.getElem_cons_zero, List.getElem_cons_succ, List.setIfInBounds_toArray, List.set_cons_zero, List.set_cons_succ]))
        (refine inT_read (v := ?_) rfl (Or.inl ⟨by rfl, ?_⟩) ?_; rotate_left 1; (focus (intro W hSW; clear hSW; go_simp; (try (with_reducible rfl)))); (try simp only [Act.put, List.getElem_toArray, List.getElem_cons_zero, List.getElem_cons_succ, List.setIfInBounds_toArray, List.set_cons_zero, List.set_cons_succ]))
        (refine inT_read (v := ?_) rfl (Or.inl ⟨by rfl, ?_⟩) ?_; rotate_left 1; (focus (intro W hSW; clear hSW; go_simp; (try (with_reducible rfl)))); (try simp only [Act.put, List.getElem_toArray, List.getElem_cons_zero, List.getElem_cons_succ, List.setIfInBounds_toArray, List.set_cons_zero, List.set_cons_succ]))
        (refine inT_read (v := ?_) rfl (Or.inl ⟨by rfl, ?_⟩) ?_; rotate_left 1; (focus (intro W hSW; clear hSW; go_simp; (try (with_reducible rfl)))); (try simp only [Act.put, List.getElem_toArray, List.getElem_cons_zero, List.getElem_cons_succ, List.setIfInBounds_toArray, List.set_cons_zero, List.set_cons_succ]))
        (refine inT_read (v := ?_) rfl (Or.inl ⟨by rfl, ?_⟩) ?_; rotate_left 1; (focus (intro W hSW; clear hSW; go_simp; (try (with_reducible rfl)))); (try simp only [Act.put, List.getElem_toArray, List.getElem_cons_zero, List.getElem_cons_succ, List.setIfInBounds_toArray, List.set_cons_zero, List.set_cons_succ]))
        (refine inT_act rfl rfl (fun K' hK => ?_))
        go_simp
        refine (wakes_at _).mono ?_
        rintro e w1 ⟨rfl, hg⟩
        (replace HC := hide (HC.out.g hg); clear hg)
        refine hK _ _ (.inr (by have hr := HC.out.row _ (.head _); exact ⟨hr.cells (g := gb) rfl 0 _ rfl, hr.cells (g := gb) rfl 1 _ rfl, hr.cells (g := gb) rfl 2 _ rfl, hr.cells (g := gb) rfl 3 _ rfl, hr.cells (g := gb) rfl 4 _ rfl, hr.cells (g := gb) rfl 5 _ rfl⟩)) ?_
        clear hK K'
        (try simp only [Act.put, List.getElem_toArray, List.getElem_cons_zero, List.getElem_cons_succ, List.setIfInBounds_toArray, List.set_cons_zero, List.set_cons_succ])
        (refine inT_read (v := ?_) rfl (Or.inl ⟨by rfl, ?_⟩) ?_; rotate_left 1; (focus (intro W hSW; clear hSW; go_simp; (try (with_reducible rfl)))); (try simp only [Act.put, List.getElem_toArray, List.getElem_cons_zero, List.getElem_cons_succ, List.setIfInBounds_toArray, List.set_cons_zero, List.set_cons_succ]))
        (refine inT_read (v := ?_) rfl (Or.inl ⟨by rfl, ?_⟩) ?_; rotate_left 1; (focus (intro W hSW; clear hSW; go_simp; (try (with_reducible rfl)))); (try simp only [Act.put, List.getElem_toArray, List.getElem_cons_zero, List.getElem_cons_succ, List.setIfInBounds_toArray, List.set_cons_zero, List.set_cons_succ]))
        (refine inT_end ?_)
        go_wp2
        go_ret
        exact ⟨rfl, HC.out.grown⟩
      · clear HQ H0 H1 H2 H3 H4 H5
        refine wp_region_inT (fun W => W.cell? ⟨gb, 0, none⟩ = some (.int .i64 0) ∧ W.cell? ⟨gb, 1, none⟩ = some (.int .i64 1) ∧ W.cell? ⟨gb, 2, none⟩ = some (.int .i64 0) ∧ W.cell? ⟨gb, 3, none⟩ = some (.int .i64 1) ∧ W.cell? ⟨gb, 4, none⟩ = some (.int .i64 0) ∧ W.cell? ⟨gb, 5, none⟩ = some (.int .i64 1)) 99 (.rd 0 (.rd 1 (.rd 2 (.rd 3 (.rd 4 (.rd 5 (.rd 6 (.rd 7 (.rd 8 (.rd 9 (.rd 10 (.rd 11 (.rd 12 (.rd 13 (.rd 14 (.rd 15 (.rd 16 (.rd 17 (.rd 18 (.rd 19 (.rd 20 (.rd 21 (.rd 22 (.rd 23 (.rd 24 (.rd 25 (.rd 26 (.rd 27 (.rd 28 (.rd 29 (.rd 30 (.rd 31 (.rd 32 (.rd 33 (.rd 34 (.rd 35 (.rd 36 (.rd 37 (.rd 38 (.rd 39 (.rd 40 (.rd 41 (.rd 42 (.rd 43 (.rd 44 (.rd 45 (.rd 46 (.rd 47 (.rd 48 (.act 49 (.rd 50 (.rd 51 .nil)))))))))))))))))))))))))))))))))))))))))))))))))))) (by kernel_rfl) (by kernel_rfl) (by kernel_rfl) (by kernel_rfl) (fun _ _ d _ _ h => by cases d <;> exact h) ⟨c0, c1, c2, c3, c4, c5⟩ ?_
        (refine inT_read (v := ?_) rfl (Or.inl ⟨by rfl, ?_⟩) ?_; rotate_left 1; (focus (intro W hSW; clear hSW; go_simp; (try (with_reducible rfl)))); (try simp only [Act.put, List.getElem_toArray, List.getElem_cons_zero, List.getElem_cons_succ, List.setIfInBounds_toArray, List.set_cons_zero, List.set_cons_succ]))
        (refine inT_read (v := ?_) rfl (Or.inl ⟨by rfl, ?_⟩) ?_; rotate_left 1; (focus (intro W hSW; clear hSW; go_simp; (try (with_reducible rfl)))); (try simp only [Act.put, List.getElem_toArray, List.getElem_cons_zero, List.getElem_cons_succ, List.setIfInBounds_toArray, List.set_cons_zero, List.set_cons_succ]))
        (refine inT_read rfl (yl_cell tcI rfl rfl rfl (fun W hW => hW.1)) ?_; (try simp only [Act.put, List.getElem_toArray, List.getElem_cons_zero, List.getElem_cons_succ, List.setIfInBounds_toArray, List.set_cons_zero, List.set_cons_succ]))
        (refine inT_read (v := ?_) rfl (Or.inl ⟨by rfl, ?_⟩) ?_; rotate_left 1; (focus (intro W hSW; clear hSW; go_simp; (try (with_reducible rfl)))); (try simp only [Act.put, List.getElem_toArray, List.getElem_cons_zero, List.getElem_cons_succ, List.setIfInBounds_toArray, List.set_cons_zero, List.set_cons_succ]))
        (refine inT_read (v := ?_) rfl (Or.inl ⟨by rfl, ?_⟩) ?_; rotate_left 1; (focus (intro W hSW; clear hSW; go_simp; (try (with_reducible rfl)))); (try simp only [Act.put, List.getElem_toArray, List.getElem_cons_zero, List.getElem_cons_succ, List.setIfInBounds_toArray, List.set_cons_zero, List.set_cons_succ]))
        (refine inT_read rfl (yl_cell tcI rfl rfl rfl (fun W hW => hW.2.1)) ?_; (try simp only [Act.put, List.getElem_toArray, List.getElem_cons_zero, List.getElem_cons_succ, List.setIfInBounds_toArray, List.set_cons_zero, List.set_cons_succ]))
        (refine inT_read (v := ?_) rfl (Or.inl ⟨by rfl, ?_⟩) ?_; rotate_left 1; (focus (intro W hSW; clear hSW; go_simp; (try (with_reducible rfl)))); (try simp only [Act.put, List.getElem_toArray, List.getElem_cons_zero, List.getElem_cons_succ, List.setIfInBounds_toArray, List.set_cons_zero, List.set_cons_succ]))
        (refine inT_read (v := ?_) rfl (Or.inl ⟨by rfl, ?_⟩) ?_; rotate_left 1; (focus (intro W hSW; clear hSW; go_simp; (try (with_reducible rfl)))); (try simp only [Act.put, List.getElem_toArray, List.getElem_cons_zero, List.getElem_cons_succ, List.setIfInBounds_toArray, List.set_cons_zero, List.set_cons_succ]))
        (refine inT_read (v := ?_) rfl (Or.inl ⟨by rfl, ?_⟩) ?_; rotate_left 1; (focus (intro W hSW; clear hSW; go_simp; (try (with_reducible rfl)))); (try simp only [Act.put, List.getElem_toArray, List.getElem_cons_zero, List.getElem_cons_succ, List.setIfInBounds_toArray, List.set_cons_zero, List.set_cons_succ]))
        (refine inT_read rfl (yl_cell tcI rfl rfl rfl (fun W hW => hW.2.2.1)) ?_; (try simp only [Act.put, List.getElem_toArray, List.getElem_cons_zero, List.getElem_cons_succ, List.setIfInBounds_toArray, List.set_cons_zero, List.set_cons_succ]))
        (refine inT_read (v := ?_) rfl (Or.inl ⟨by rfl, ?_⟩) ?_; rotate_left 1; (focus (intro W hSW; clear hSW; go_simp; (try (with_reducible rfl)))); (try simp only [Act.put, List.getElem_toArray, List.getElem_cons_zero, List.getElem_cons_succ, List.setIfInBounds_toArray, List.set_cons_zero, List.set_cons_succ]))
        (refine inT_read (v := ?_) rfl (Or.inl ⟨by rfl, ?_⟩) ?_; rotate_left 1; (focus (intro W hSW; clear hSW; go_simp; (try (with_reducible rfl)))); (try simp only [Act.put, List.getElem_toArray, List.getElem_cons_zero, List.getElem_cons_succ, List.setIfInBounds_toArray, List.set_cons_zero, List.set_cons_succ]))
        (refine inT_read (v := ?_) rfl (Or.inl ⟨by rfl, ?_⟩) ?_; rotate_left 1; (focus (intro W hSW; clear hSW; go_simp; (try (with_reducible rfl)))); (try simp only [Act.put, List.getElem_toArray, List.getElem_cons_zero, List.getElem_cons_succ, List.setIfInBounds_toArray, List.set_cons_zero, List.set_cons_succ]))
        (refine inT_read (v := ?_) rfl (Or.inl ⟨by rfl, ?_⟩) ?_; rotate_left 1; (focus (intro W hSW; clear hSW; go_simp; (try (with_reducible rfl)))); (try simp only [Act.put, List.getElem_toArray, List.getElem_cons_zero, List.getElem_cons_succ, List.setIfInBounds_toArray, List.set_cons_zero, List.set_cons_succ]))
        (refine inT_read (v := ?_) rfl (Or.inl ⟨by rfl, ?_⟩) ?_; rotate_left 1; (focus (intro W hSW; clear hSW; go_simp; (try (with_reducible rfl)))); (try simp only [Act.put, List.getElem_toArray, List.getElem_cons_zero, List.getElem_cons_succ, List.setIfInBounds_toArray, List.set_cons_zero, List.set_cons_succ]))
        (refine inT_read rfl (yl_cell tcI rfl rfl rfl (fun W hW => hW.2.2.2.1)) ?_; (try simp only [Act.put, List.getElem_toArray, List.getElem_cons_zero, List.getElem_cons_succ, List.setIfInBounds_toArray, List.set_cons_zero, List.set_cons_succ]))
        (refine inT_read (v := ?_) rfl (Or.inl ⟨by rfl, ?_⟩) ?_; rotate_left 1; (focus (intro W hSW; clear hSW; go_simp; (try (with_reducible rfl)))); (try simp only [Act.put, List.getElem_toArray, List.getElem_cons_zero, List.getElem_cons_succ, List.setIfInBounds_toArray, List.set_cons_zero, List.set_cons_succ]))
        (refine inT_read (v := ?_) rfl (Or.inl ⟨by rfl, ?_⟩) ?_; rotate_left 1; (focus (intro W hSW; clear hSW; go_simp; (try (with_reducible rfl)))); (try simp only [Act.put, List.getElem_toArray, List.getElem_cons_zero, List.getElem_cons_succ, List.setIfInBounds_toArray, List.set_cons_zero, List.set_cons_succ]))
        (refine inT_read rfl (yl_cell tcI rfl rfl rfl (fun W hW => hW.1)) ?_; (try simp only [Act.put, List.getElem_toArray, List.getElem_cons_zero, List.getElem_cons_succ, List.setIfInBounds_toArray, List.set_cons_zero, List.set_cons_succ]))
        (refine inT_read (v := ?_) rfl (Or.inl ⟨by rfl, ?_⟩) ?_; rotate_left 1; (focus (intro W hSW; clear hSW; go_simp; (try (with_reducible rfl)))); (try simp only [Act.put, List.getElem_toArray, List.getElem_cons_zero, List.getElem_cons_succ, List.setIfInBounds_toArray, List.set_cons_zero, List.set_cons_succ]))
        (refine inT_read (v := ?_) rfl (Or.inl ⟨by rfl, ?_⟩) ?_; rotate_left 1; (focus (intro W hSW; clear hSW; go_simp; (try (with_reducible rfl)))); (try simp only [Act.put, List.getElem_toArray, List.getElem_cons_zero, List.getElem_cons_succ, List.setIfInBounds_toArray, List.set_cons_zero, List.set_cons_succ]))
        (refine inT_read rfl (yl_cell tcI rfl rfl rfl (fun W hW => hW.2.1)) ?_; (try simp only [Act.put, List.getElem_toArray, List.getElem_cons_zero, List.getElem_cons_succ, List.setIfInBounds_toArray, List.set_cons_zero, List.set_cons_succ]))
        (refine inT_read (v := ?_) rfl (Or.inl ⟨by rfl, ?_⟩) ?_; rotate_left 1; (focus (intro W hSW; clear hSW; go_simp; (try (with_reducible rfl)))); (try simp only [Act.put, List.getElem_toArray, List.getElem_cons_zero, List.getElem_cons_succ, List.setIfInBounds_toArray, List.set_cons_zero, List.set_cons_succ]))
        (refine inT_read (v := ?_) rfl (Or.inl ⟨by rfl, ?_⟩) ?_; rotate_left 1; (focus (intro W hSW; clear hSW; go_simp; (try (with_reducible rfl)))); (try simp only [Act.put, List.getElem_toArray, List.getElem_cons_zero, List.getElem_cons_succ, List.setIfInBounds_toArray, List.set_cons_zero, List.set_cons_succ]))
        (refine inT_read (v := ?_) rfl (Or.inl ⟨by rfl, ?_⟩) ?_; rotate_left 1; (focus (intro W hSW; clear hSW; go_simp; (try (with_reducible rfl)))); (try simp only [Act.put, List.getElem_toArray, List.getElem_cons_zero, List.getElem_cons_succ, List.setIfInBounds_toArray, List.set_cons_zero, List.set_cons_succ]))
        (refine inT_read (v := ?_) rfl (Or.inl ⟨by rfl, ?_⟩) ?_; rotate_left 1; (focus (intro W hSW; clear hSW; go_simp; (try (with_reducible rfl)))); (try simp only [Act.put, List.getElem_toArray, List.getElem_cons_zero, List.getElem_cons_succ, List.setIfInBounds_toArray, List.set_cons_zero, List.set_cons_succ]))
        (refine inT_read (v := ?_) rfl (Or.inl ⟨by rfl, ?_⟩) ?_; rotate_left 1; (focus (intro W hSW; clear hSW; go_simp; (try (with_reducible rfl)))); (try simp only [Act.put, List.getElem_toArray, List.getElem_cons_zero, List.getElem_cons_succ, List.setIfInBounds_toArray, List.set_cons_zero, List.set_cons_succ]))
        (refine inT_read (v := ?_) rfl (Or.inl ⟨by rfl, ?_⟩) ?_; rotate_left 1; (focus (intro W hSW; clear hSW; go_simp; (try (with_reducible rfl)))); (try simp only [Act.put, List.getElem_toArray, List.getElem_cons_zero, List.getElem_cons_succ, List.setIfInBounds_toArray, List.set_cons_zero, List.set_cons_succ]))
        (refine inT_read rfl (yl_cell tcI rfl rfl rfl (fun W hW => hW.2.2.2.2.1)) ?_; (try simp only [Act.put, List.getElem_toArray, List.getElem_cons_zero, List.getElem_cons_succ, List.setIfInBounds_toArray, List.set_cons_zero, List.set_cons_succ]))
        (refine inT_read (v := ?_) rfl (Or.inl ⟨by rfl, ?_⟩) ?_; rotate_left 1; (focus (intro W hSW; clear hSW; go_simp; (try (with_reducible rfl)))); (try simp only [Act.put, List.getElem_toArray, List.getElem_cons_zero, List.getElem_cons_succ, List.setIfInBounds_toArray, List.set_cons_zero, List.set_cons_succ]))
        (refine inT_read (v := ?_) rfl (Or.inl ⟨by rfl, ?_⟩) ?_; rotate_left 1; (focus (intro W hSW; clear hSW; go_simp; (try (with_reducible rfl)))); (try simp only [Act.put, List.getElem_toArray, List.getElem_cons_zero, List.getElem_cons_succ, List.setIfInBounds_toArray, List.set_cons_zero, List.set_cons_succ]))
        (refine inT_read rfl (yl_cell tcI rfl rfl rfl (fun W hW => hW.2.1)) ?_; (try simp only [Act.put, List.getElem_toArray, List.getElem_cons_zero, List.getElem_cons_succ, List.setIfInBounds_toArray, List.set_cons_zero, List.set_cons_succ]))
        (refine inT_read (v := ?_) rfl (Or.inl ⟨by rfl, ?_⟩) ?_; rotate_left 1; (focus (intro W hSW; clear hSW; go_simp; (try (with_reducible rfl)))); (try simp only [Act.put, List.getElem_toArray, List.getElem_cons_zero, List.getElem_cons_succ, List.setIfInBounds_toArray, List.set_cons_zero, List.set_cons_succ]))
        (refine inT_read (v := ?_) rfl (Or.inl ⟨by rfl, ?_⟩) ?_; rotate_left 1; (focus (intro W hSW; clear hSW; go_simp; (try (with_reducible rfl)))); (try simp only [Act.put, List.getElem_toArray, List.getElem_cons_zero, List.getElem_cons_succ, List.setIfInBounds_toArray, List.set_cons_zero, List.set_cons_succ]))
        (refine inT_read (v := ?_) rfl (Or.inl ⟨by rfl, ?_⟩) ?_; rotate_left 1; (focus (intro W hSW; clear hSW; go_simp; (try (with_reducible rfl)))); (try simp only [Act.put, List.getElem_toArray, List.getElem_cons_zero, List.getElem_cons_succ, List.setIfInBounds_toArray, List.set_cons_zero, List.set_cons_succ]))
        (refine inT_read (v := ?_) rfl (Or.inl ⟨by rfl, ?_⟩) ?_; rotate_left 1; (focus (intro W hSW; clear hSW; go_simp; (try (with_reducible rfl)))); (try simp only [Act.put, List.getElem_toArray, List.getElem_cons_zero, List.getElem_cons_succ, List.setIfInBounds_toArray, List.set_cons_zero, List.set_cons_succ]))
        (refine inT_read (v := ?_) rfl (Or.inl ⟨by rfl, ?_⟩) ?_; rotate_left 1; (focus (intro W hSW; clear hSW; go_simp; (try (with_reducible rfl)))); (try simp only [Act.put, List.getElem_toArray, List.getElem_cons_zero, List.getElem_cons_succ, List.setIfInBounds_toArray, List.set_cons_zero, List.set_cons_succ]))
        (refine inT_read (v := ?_) rfl (Or.inl ⟨by rfl, ?_⟩) ?_; rotate_left 1; (focus (intro W hSW; clear hSW; go_simp; (try (with_reducible rfl)))); (try simp only [Act.put, List.getElem_toArray, List.getElem_cons_zero, List.getElem_cons_succ, List.setIfInBounds_toArray, List.set_cons_zero, List.set_cons_succ]))
        (refine inT_read rfl (yl_cell tcI rfl rfl rfl (fun W hW => hW.2.2.2.2.2)) ?_; (try simp only [Act.put, List.getElem_toArray, List.getElem_cons_zero, List.getElem_cons_succ, List.setIfInBounds_toArray, List.set_cons_zero, List.set_cons_succ]))
        (refine inT_read (v := ?_) rfl (Or.inl ⟨by rfl, ?_⟩) ?_; rotate_left 1; (focus (intro W hSW; clear hSW; go_simp; (try (with_reducible rfl)))); (try simp only [Act.put, List.getElem_toArray, List.getElem_cons_zero, List.getElem_cons_succ, List.setIfInBounds_toArray, List.set_cons_zero, List.set_cons_succ]))
        (refine inT_read (v := ?_) rfl (Or.inl ⟨by rfl, ?_⟩) ?_; rotate_left 1; (focus (intro W hSW; clear hSW; go_simp; (try (with_reducible rfl)))); (try simp only [Act.put, List.getElem_toArray, List.getElem_cons_zero, List.getElem_cons_succ, List.setIfInBounds_toArray, List.set_cons_zero, List.set_cons_succ]))
        (refine inT_read rfl (yl_cell tcI rfl rfl rfl (fun W hW => hW.2.1)) ?_; (try simp only [Act.put, List.getElem_toArray, List.getElem_cons_zero, List.getElem_cons_succ, List.setIfInBounds_toArray, List.set_cons_zero, List.set_cons_succ]))
        (refine inT_read (v := ?_) rfl (Or.inl ⟨by rfl, ?_⟩) ?_; rotate_left 1; (focus (intro W hSW; clear hSW; go_simp; (try (with_reducible rfl)))); (try simp only [Act.put, List.getElem_toArray, List.getElem_cons_zero, List.getElem_cons_succ, List.setIfInBounds_toArray, List.set_cons_zero, List.set_cons_succ]))
        (refine inT_read (v := ?_) rfl (Or.inl ⟨by rfl, ?_⟩) ?_; rotate_left 1; (focus (intro W hSW; clear hSW; go_simp; (try (with_reducible rfl)))); (try simp only [Act.put, List.getElem_toArray, List.getElem_cons_zero, List.getElem_cons_succ, List.setIfInBounds_toArray, List.set_cons_zero, List.set_cons_succ]))
        (refine inT_read rfl (yl_cell tcI rfl rfl rfl (fun W hW => hW.2.2.1)) ?_; (try simp only [Act.put, List.getElem_toArray, List.getElem_cons_zero, List.getElem_cons_succ, List.setIfInBounds_toArray, List.set_cons_zero, List.set_cons_succ]))
        (refine inT_read (v := ?_) rfl (Or.inl ⟨by rfl, ?_⟩) ?_; rotate_left 1; (focus (intro W hSW; clear hSW; go_simp; (try (with_reducible rfl)))); (try simp only [Act.put, List.getElem_toArray, List.getElem_cons_zero, List.getElem_cons_succ, List.setIfInBounds_toArray, List.set_cons_zero, List.set_cons_succ]))
        (refine inT_read (v := ?_) rfl (Or.inl ⟨by rfl, ?_⟩) ?_; rotate_left 1; (focus (intro W hSW; clear hSW; go_simp; (try (with_reducible rfl)))); (try simp only [Act.put, List.getElem_toArray, List.getElem_cons_zero, List.getElem_cons_succ, List.setIfInBounds_toArray, List.set_cons_zero, List.set_cons_succ]))
        (refine inT_read (v := ?_) rfl (Or.inl ⟨by rfl, ?_⟩) ?_; rotate_left 1; (focus (intro W hSW; clear hSW; go_simp; (try (with_reducible rfl)))); (try simp only [Act.put, List.getElem_toArray, List.getElem_cons_zero, List.getElem_cons_succ, List.setIfInBounds_toArray, List.set_cons_zero, List.set_cons_succ]))
        (refine inT_read (v := ?_) rfl (Or.inl ⟨by rfl, ?_⟩) ?_; rotate_left 1; (focus (intro W hSW; clear hSW; go_simp; (try (with_reducible rfl)))); (try simp only [Act.put, List.getElem_toArray, List.getElem_cons_zero, List.getElem_cons_succ, List.setIfInBounds_toArray, List.set_cons_zero, List.set_cons_succ]))
        (refine inT_act rfl rfl (fun K' hK => ?_))
        go_simp
        refine (wakes_at _).mono ?_
        rintro e w1 ⟨rfl, hg⟩
        (replace HC := hide (HC.out.g hg); clear hg)
        refine hK _ _ (.inr (by have hr := HC.out.row _ (.head _); exact ⟨hr.cells (g := gb) rfl 0 _ rfl, hr.cells (g := gb) rfl 1 _ rfl, hr.cells (g := gb) rfl 2 _ rfl, hr.cells (g := gb) rfl 3 _ rfl, hr.cells (g := gb) rfl 4 _ rfl, hr.cells (g := gb) rfl 5 _ rfl⟩)) ?_
        clear hK K'
        (try simp only [Act.put, List.getElem_toArray, List.getElem_cons_zero, List.getElem_cons_succ, List.setIfInBounds_toArray, List.set_cons_zero, List.set_cons_succ])
        (refine inT_read (v := ?_) rfl (Or.inl ⟨by rfl, ?_⟩) ?_; rotate_left 1; (focus (intro W hSW; clear hSW; go_simp; (try (with_reducible rfl)))); (try simp only [Act.put, List.getElem_toArray, List.getElem_cons_zero, List.getElem_cons_succ, List.setIfInBounds_toArray, List.set_cons_zero, List.set_cons_succ]))
        (refine inT_read (v := ?_) rfl (Or.inl ⟨by rfl, ?_⟩) ?_; rotate_left 1; (focus (intro W hSW; clear hSW; go_simp; (try (with_reducible rfl)))); (try simp only [Act.put, List.getElem_toArray, List.getElem_cons_zero, List.getElem_cons_succ, List.setIfInBounds_toArray, List.set_cons_zero, List.set_cons_succ]))
        (refine inT_end ?_)
        go_wp2
        go_ret
        exact ⟨rfl, HC.out.grown⟩
      · clear HQ H0 H1 H2 H3 H4 H5
        refine wp_region_inT (fun W => W.cell? ⟨gb, 0, none⟩ = some (.int .i64 0) ∧ W.cell? ⟨gb, 1, none⟩ = some (.int .i64 0) ∧ W.cell? ⟨gb, 2, none⟩ = some (.int .i64 1) ∧ W.cell? ⟨gb, 3, none⟩ = some (.int .i64 0) ∧ W.cell? ⟨gb, 4, none⟩ = some (.int .i64 1) ∧ W.cell? ⟨gb, 5, none⟩ = some (.int .i64 1)) 99 (.rd 0 (.rd 1 (.rd 2 (.rd 3 (.rd 4 (.rd 5 (.rd 6 (.rd 7 (.rd 8 (.rd 9 (.rd 10 (.rd 11 (.rd 12 (.rd 13 (.rd 14 (.rd 15 (.rd 16 (.rd 17 (.rd 18 (.rd 19 (.rd 20 (.rd 21 (.rd 22 (.rd 23 (.rd 24 (.rd 25 (.rd 26 (.rd 27 (.rd 28 (.rd 29 (.rd 30 (.rd 31 (.rd 32 (.rd 33 (.rd 34 (.rd 35 (.rd 36 (.rd 37 (.rd 38 (.rd 39 (.rd 40 (.rd 41 (.rd 42 (.rd 43 (.rd 44 (.rd 45 (.rd 46 (.rd 47 (.rd 48 (.act 49 (.rd 50 (.rd 51 .nil)))))))))))))))))))))))))))))))))))))))))))))))))))) (by kernel_rfl) (by kernel_rfl) (by kernel_rfl) (by kernel_rfl) (fun _ _ d _ _ h => by cases d <;> exact h) ⟨c0, c1, c2, c3, c4, c5⟩ ?_
        (refine inT_read (v := ?_) rfl (Or.inl ⟨by rfl, ?_⟩) ?_; rotate_left 1; (focus (intro W hSW; clear hSW; go_simp; (try (with_reducible rfl)))); (try simp only [Act.put, List.getElem_toArray, List.getElem_cons_zero, List.getElem_cons_succ, List.setIfInBounds_toArray, List.set_cons_zero, List.set_cons_succ]))
        (refine inT_read (v := ?_) rfl (Or.inl ⟨by rfl, ?_⟩) ?_; rotate_left 1; (focus (intro W hSW; clear hSW; go_simp; (try (with_reducible rfl)))); (try simp only [Act.put, List.getElem_toArray, List.getElem_cons_zero, List.getElem_cons_succ, List.setIfInBounds_toArray, List.set_cons_zero, List.set_cons_succ]))
        (refine inT_read rfl (yl_cell tcI rfl rfl rfl (fun W hW => hW.1)) ?_; (try simp only [Act.put, List.getElem_toArray, List.getElem_cons_zero, List.getElem_cons_succ, List.setIfInBounds_toArray, List.set_cons_zero, List.set_cons_succ]))
        (refine inT_read (v := ?_) rfl (Or.inl ⟨by rfl, ?_⟩) ?_; rotate_left 1; (focus (intro W hSW; clear hSW; go_simp; (try (with_reducible rfl)))); (try simp only [Act.put, List.getElem_toArray, List.getElem_cons_zero, List.getElem_cons_succ, List.setIfInBounds_toArray, List.set_cons_zero, List.set_cons_succ]))
        (refine inT_read (v := ?_) rfl (Or.inl ⟨by rfl, ?_⟩) ?_; rotate_left 1; (focus (intro W hSW; clear hSW; go_simp; (try (with_reducible rfl)))); (try simp only [Act.put, List.getElem_toArray, List.getElem_cons_zero, List.getElem_cons_succ, List.setIfInBounds_toArray, List.set_cons_zero, List.set_cons_succ]))
        (refine inT_read rfl (yl_cell tcI rfl rfl rfl (fun W hW => hW.2.1)) ?_; (try simp only [Act.put, List.getElem_toArray, List.getElem_cons_zero, List.getElem_cons_succ, List.setIfInBounds_toArray, List.set_cons_zero, List.set_cons_succ]))
        (refine inT_read (v := ?_) rfl (Or.inl ⟨by rfl, ?_⟩) ?_; rotate_left 1; (focus (intro W hSW; clear hSW; go_simp; (try (with_reducible rfl)))); (try simp only [Act.put, List.getElem_toArray, List.getElem_cons_zero, List.getElem_cons_succ, List.setIfInBounds_toArray, List.set_cons_zero, List.set_cons_succ]))
        (refine inT_read (v := ?_) rfl (Or.inl ⟨by rfl, ?_⟩) ?_; rotate_left 1; (focus (intro W hSW; clear hSW; go_simp; (try (with_reducible rfl)))); (try simp only [Act.put, List.getElem_toArray, List.getElem_cons_zero, List.getElem_cons_succ, List.setIfInBounds_toArray, List.set_cons_zero, List.set_cons_succ]))
        (refine inT_read (v := ?_) rfl (Or.inl ⟨by rfl, ?_⟩) ?_; rotate_left 1; (focus (intro W hSW; clear hSW; go_simp; (try (with_reducible rfl)))); (try simp only [Act.put, List.getElem_toArray, List.getElem_cons_zero, List.getElem_cons_succ, List.setIfInBounds_toArray, List.set_cons_zero, List.set_cons_succ]))
        (refine inT_read rfl (yl_cell tcI rfl rfl rfl (fun W hW => hW.2.2.1)) ?_; (try simp only [Act.put, List.getElem_toArray, List.getElem_cons_zero, List.getElem_cons_succ, List.setIfInBounds_toArray, List.set_cons_zero, List.set_cons_succ]))
        (refine inT_read (v := ?_) rfl (Or.inl ⟨by rfl, ?_⟩) ?_; rotate_left 1; (focus (intro W hSW; clear hSW; go_simp; (try (with_reducible rfl)))); (try simp only [Act.put, List.getElem_toArray, List.getElem_cons_zero, List.getElem_cons_succ, List.setIfInBounds_toArray, List.set_cons_zero, List.set_cons_succ]))
        (refine inT_read (v := ?_) rfl (Or.inl ⟨by rfl, ?_⟩) ?_; rotate_left 1; (focus (intro W hSW; clear hSW; go_simp; (try (with_reducible rfl)))); (try simp only [Act.put, List.getElem_toArray, List.getElem_cons_zero, List.getElem_cons_succ, List.setIfInBounds_toArray, List.set_cons_zero, List.set_cons_succ]))
        (refine inT_read (v := ?_) rfl (Or.inl ⟨by rfl, ?_⟩) ?_; rotate_left 1; (focus (intro W hSW; clear hSW; go_simp; (try (with_reducible rfl)))); (try simp only [Act.put, List.getElem_toArray, List.getElem_cons_zero, List.getElem_cons_succ, List.setIfInBounds_toArray, List.set_cons_zero, List.set_cons_succ]))
        (refine inT_read (v := ?_) rfl (Or.inl ⟨by rfl, ?_⟩) ?_; rotate_left 1; (focus (intro W hSW; clear hSW; go_simp; (try (with_reducible rfl)))); (try simp only [Act.put, List.getElem_toArray, List.getElem_cons_zero, List.getElem_cons_succ, List.setIfInBounds_toArray, List.set_cons_zero, List.set_cons_succ]))
        (refine inT_read (v := ?_) rfl (Or.inl ⟨by rfl, ?_⟩) ?_; rotate_left 1; (focus (intro W hSW; clear hSW; go_simp; (try (with_reducible rfl)))); (try simp only [Act.put, List.getElem_toArray, List.getElem_cons_zero, List.getElem_cons_succ, List.setIfInBounds_toArray, List.set_cons_zero, List.set_cons_succ]))
        (refine inT_read rfl (yl_cell tcI rfl rfl rfl (fun W hW => hW.2.2.2.1)) ?_; (try simp only [Act.put, List.getElem_toArray, List.getElem_cons_zero, List.getElem_cons_succ, List.setIfInBounds_toArray, List.set_cons_zero, List.set_cons_succ]))
        (refine inT_read (v := ?_) rfl (Or.inl ⟨by rfl, ?_⟩) ?_; rotate_left 1; (focus (intro W hSW; clear hSW; go_simp; (try (with_reducible rfl)))); (try simp only [Act.put, List.getElem_toArray, List.getElem_cons_zero, List.getElem_cons_succ, List.setIfInBounds_toArray, List.set_cons_zero, List.set_cons_succ]))
        (refine inT_read (v := ?_) rfl (Or.inl ⟨by rfl, ?_⟩) ?_; rotate_left 1; (focus (intro W hSW; clear hSW; go_simp; (try (with_reducible rfl)))); (try simp only [Act.put, List.getElem_toArray, List.getElem_cons_zero, List.getElem_cons_succ, List.setIfInBounds_toArray, List.set_cons_zero, List.set_cons_succ]))
        (refine inT_read rfl (yl_cell tcI rfl rfl rfl (fun W hW => hW.1)) ?_; (try simp only [Act.put, List.getElem_toArray, List.getElem_cons_zero, List.getElem_cons_succ, List.setIfInBounds_toArray, List.set_cons_zero, List.set_cons_succ]))
        (refine inT_read (v := ?_) rfl (Or.inl ⟨by rfl, ?_⟩) ?_; rotate_left 1; (focus (intro W hSW; clear hSW; go_simp; (try (with_reducible rfl)))); (try simp only [Act.put, List.getElem_toArray, List.getElem_cons_zero, List.getElem_cons_succ, List.setIfInBounds_toArray, List.set_cons_zero, List.set_cons_succ]))
        (refine inT_read (v := ?_) rfl (Or.inl ⟨by rfl, ?_⟩) ?_; rotate_left 1; (focus (intro W hSW; clear hSW; go_simp; (try (with_reducible rfl)))); (try simp only [Act.put, List.getElem_toArray, List.getElem_cons_zero, List.getElem_cons_succ, List.setIfInBounds_toArray, List.set_cons_zero, List.set_cons_succ]))
        (refine inT_read rfl (yl_cell tcI rfl rfl rfl (fun W hW => hW.2.1)) ?_; (try simp only [Act.put, List.getElem_toArray, List.getElem_cons_zero, List.getElem_cons_succ, List.setIfInBounds_toArray, List.set_cons_zero, List.set_cons_succ]))
        (refine inT_read (v := ?_) rfl (Or.inl ⟨by rfl, ?_⟩) ?_; rotate_left 1; (focus (intro W hSW; clear hSW; go_simp; (try (with_reducible rfl)))); (try simp only [Act.put, List.getElem_toArray, List.getElem_cons_zero, List.getElem_cons_succ, List.setIfInBounds_toArray, List.set_cons_zero, List.set_cons_succ]))
        (refine inT_read (v := ?_) rfl (Or.inl ⟨by rfl, ?_⟩) ?_; rotate_left 1; (focus (intro W hSW; clear hSW; go_simp; (try (with_reducible rfl)))); (try simp only [Act.put, List.getElem_toArray, List.getElem_cons_zero, List.getElem_cons_succ, List.setIfInBounds_toArray, List.set_cons_zero, List.set_cons_succ]))
        (refine inT_read (v := ?_) rfl (Or.inl ⟨by rfl, ?_⟩) ?_; rotate_left 1; (focus (intro W hSW; clear hSW; go_simp; (try (with_reducible rfl)))); (try simp only [Act.put, List.getElem_toArray, List.getElem_cons_zero, List.getElem_cons_succ, List.setIfInBounds_toArray, List.set_cons_zero, List.set_cons_succ]))
        (refine inT_read (v := ?_) rfl (Or.inl ⟨by rfl, ?_⟩) ?_; rotate_left 1; (focus (intro W hSW; clear hSW; go_simp; (try (with_reducible rfl)))); (try simp only [Act.put, List.getElem_toArray, List.getElem_cons_zero, List.getElem_cons_succ, List.setIfInBounds_toArray, List.set_cons_zero, List.set_cons_succ]))
        (refine inT_read (v := ?_) rfl (Or.inl ⟨by rfl, ?_⟩) ?_; rotate_left 1; (focus (intro W hSW; clear hSW; go_simp; (try (with_reducible rfl)))); (try simp only [Act.put, List.getElem_toArray, List.getElem_cons_zero, List.getElem_cons_succ, List.setIfInBounds_toArray, List.set_cons_zero, List.set_cons_succ]))
        (refine inT_read (v := ?_) rfl (Or.inl ⟨by rfl, ?_⟩) ?_; rotate_left 1; (focus (intro W hSW; clear hSW; go_simp; (try (with_reducible rfl)))); (try simp only [Act.put, List.getElem_toArray, List.getElem_cons_zero, List.getElem_cons_succ, List.setIfInBounds_toArray, List.set_cons_zero, List.set_cons_succ]))
        (refine inT_read rfl (yl_cell tcI rfl rfl rfl (fun W hW => hW.2.2.2.2.1)) ?_; (try simp only [Act.put, List.getElem_toArray, List.getElem_cons_zero, List.getElem_cons_succ, List.setIfInBounds_toArray, List.set_cons_zero, List.set_cons_succ]))
        (refine inT_read (v := ?_) rfl (Or.inl ⟨by rfl, ?_⟩) ?_; rotate_left 1; (focus (intro W hSW; clear hSW; go_simp; (try (with_reducible rfl)))); (try simp only [Act.put, List.getElem_toArray, List.getElem_cons_zero, List.getElem_cons_succ, List.setIfInBounds_toArray, List.set_cons_zero, List.set_cons_succ]))
        (refine inT_read (v := ?_) rfl (Or.inl ⟨by rfl, ?_⟩) ?_; rotate_left 1; (focus (intro W hSW; clear hSW; go_simp; (try (with_reducible rfl)))); (try simp only [Act.put, List.getElem_toArray, List.getElem_cons_zero, List.getElem_cons_succ, List.setIfInBounds_toArray, List.set_cons_zero, List.set_cons_succ]))
        (refine inT_read rfl (yl_cell tcI rfl rfl rfl (fun W hW => hW.2.1)) ?_; (try simp only [Act.put, List.getElem_toArray, List.getElem_cons_zero, List.getElem_cons_succ, List.setIfInBounds_toArray, List.set_cons_zero, List.set_cons_succ]))
        (refine inT_read (v := ?_) rfl (Or.inl ⟨by rfl, ?_⟩) ?_; rotate_left 1; (focus (intro W hSW; clear hSW; go_simp; (try (with_reducible rfl)))); (try simp only [Act.put, List.getElem_toArray, List.getElem_cons_zero, List.getElem_cons_succ, List.setIfInBounds_toArray, List.set_cons_zero, List.set_cons_succ]))
        (refine inT_read (v := ?_) rfl (Or.inl ⟨by rfl, ?_⟩) ?_; rotate_left 1; (focus (intro W hSW; clear hSW; go_simp; (try (with_reducible rfl)))); (try simp only [Act.put, List.getElem_toArray, List.getElem_cons_zero, List.getElem_cons_succ, List.setIfInBounds_toArray, List.set_cons_zero, List.set_cons_succ]))
        (refine inT_read (v := ?_) rfl (Or.inl ⟨by rfl, ?_⟩) ?_; rotate_left 1; (focus (intro W hSW; clear hSW; go_simp; (try (with_reducible rfl)))); (try simp only [Act.put, List.getElem_toArray, List.getElem_cons_zero, List.getElem_cons_succ, List.setIfInBounds_toArray, List.set_cons_zero, List.set_cons_succ]))
        (refine inT_read (v := ?_) rfl (Or.inl ⟨by rfl, ?_⟩) ?_; rotate_left 1; (focus (intro W hSW; clear hSW; go_simp; (try (with_reducible rfl)))); (try simp only [Act.put, List.getElem_toArray, List.getElem_cons_zero, List.getElem_cons_succ, List.setIfInBounds_toArray, List.set_cons_zero, List.set_cons_succ]))
        (refine inT_read (v := ?_) rfl (Or.inl ⟨by rfl, ?_⟩) ?_; rotate_left 1; (focus (intro W hSW; clear hSW; go_simp; (try (with_reducible rfl)))); (try simp only [Act.put, List.getElem_toArray, List.getElem_cons_zero, List.getElem_cons_succ, List.setIfInBounds_toArray, List.set_cons_zero, List.set_cons_succ]))
        (refine inT_read (v := ?_) rfl (Or.inl ⟨by rfl, ?_⟩) ?_; rotate_left 1; (focus (intro W hSW; clear hSW; go_simp; (try (with_reducible rfl)))); (try simp only [Act.put, List.getElem_toArray, List.getElem_cons_zero, List.getElem_cons_succ, List.setIfInBounds_toArray, List.set_cons_zero, List.set_cons_succ]))
        (refine inT_read rfl (yl_cell tcI rfl rfl rfl (fun W hW => hW.2.2.2.2.2)) ?_; (try simp only [Act.put, List.getElem_toArray, List.getElem_cons_zero, List.getElem_cons_succ, List.setIfInBounds_toArray, List.set_cons_zero, List.set_cons_succ]))
        (refine inT_read (v := ?_) rfl (Or.inl ⟨by rfl, ?_⟩) ?_; rotate_left 1; (focus (intro W hSW; clear hSW; go_simp; (try (with_reducible rfl)))); (try simp only [Act.put, List.getElem_toArray, List.getElem_cons_zero, List.getElem_cons_succ, List.setIfInBounds_toArray, List.set_cons_zero, List.set_cons_succ]))
        (refine inT_read (v := ?_) rfl (Or.inl ⟨by rfl, ?_⟩) ?_; rotate_left 1; (focus (intro W hSW; clear hSW; go_simp; (try (with_reducible rfl)))); (try simp only [Act.put, List.getElem_toArray, List.getElem_cons_zero, List.getElem_cons_succ, List.setIfInBounds_toArray, List.set_cons_zero, List.set_cons_succ]))
        (refine inT_read rfl (yl_cell tcI rfl rfl rfl (fun W hW => hW.2.1)) ?_; (try simp only [Act.put, List.getElem_toArray, List.getElem_cons_zero, List.getElem_cons_succ, List.setIfInBounds_toArray, List.set_cons_zero, List.set_cons_succ]))
        (refine inT_read (v := ?_) rfl (Or.inl ⟨by rfl, ?_⟩) ?_; rotate_left 1; (focus (intro W hSW; clear hSW; go_simp; (try (with_reducible rfl)))); (try simp only [Act.put, List.getElem_toArray, List.getElem_cons_zero, List.getElem_cons_succ, List.setIfInBounds_toArray, List.set_cons_zero, List.set_cons_succ]))
        (refine inT_read (v := ?_) rfl (Or.inl ⟨by rfl, ?_⟩) ?_; rotate_left 1; (focus (intro W hSW; clear hSW; go_simp; (try (with_reducible rfl)))); (try simp only [Act.put, List.getElem_toArray, List.getElem_cons_zero, List.getElem_cons_succ, List.setIfInBounds_toArray, List.set_cons_zero, List.set_cons_succ]))
        (refine inT_read rfl (yl_cell tcI rfl rfl rfl (fun W hW => hW.2.2.1)) ?_; (try simp only [Act.put, List.getElem_toArray, List.getElem_cons_zero, List.getElem_cons_succ, List.setIfInBounds_toArray, List.set_cons_zero, List.set_cons_succ]))
        (refine inT_read (v := ?_) rfl (Or.inl ⟨by rfl, ?_⟩) ?_; rotate_left 1; (focus (intro W hSW; clear hSW; go_simp; (try (with_reducible rfl)))); (try simp only [Act.put, List.getElem_toArray, List.getElem_cons_zero, List.getElem_cons_succ, List.setIfInBounds_toArray, List.set_cons_zero, List.set_cons_succ]))
        (refine inT_read (v := ?_) rfl (Or.inl ⟨by rfl, ?_⟩) ?_; rotate_left 1; (focus (intro W hSW; clear hSW; go_simp; (try (with_reducible rfl)))); (try simp only [Act.put, List.getElem_toArray, List.getElem_cons_zero, List.getElem_cons_succ, List.setIfInBounds_toArray, List.set_cons_zero, List.set_cons_succ]))
        (refine inT_read (v := ?_) rfl (Or.inl ⟨by rfl, ?_⟩) ?_; rotate_left 1; (focus (intro W hSW; clear hSW; go_simp; (try (with_reducible rfl)))); (try simp only [Act.put, List.getElem_toArray, List.getElem_cons_zero, List.getElem_cons_succ, List.setIfInBounds_toArray, List.set_cons_zero, List.set_cons_succ]))
        (refine inT_read (v := ?_) rfl (Or.inl ⟨by rfl, ?_⟩) ?_; rotate_left 1; (focus (intro W hSW; clear hSW; go_simp; (try (with_reducible rfl)))); (try simp only [Act.put, List.getElem_toArray, List.getElem_cons_zero, List.getElem_cons_succ, List.setIfInBounds_toArray, List.set_cons_zero, List.set_cons_succ]))
        (refine inT_act rfl rfl (fun K' hK => ?_))
        go_simp
        refine (wakes_at _).mono ?_
        rintro e w1 ⟨rfl, hg⟩
        (replace HC := hide (HC.out.g hg); clear hg)
        refine hK _ _ (.inr (by have hr := HC.out.row _ (.head _); exact ⟨hr.cells (g := gb) rfl 0 _ rfl, hr.cells (g := gb) rfl 1 _ rfl, hr.cells (g := gb) rfl 2 _ rfl, hr.cells (g := gb) rfl 3 _ rfl, hr.cells (g := gb) rfl 4 _ rfl, hr.cells (g := gb) rfl 5 _ rfl⟩)) ?_
        clear hK K'
        (try simp only [Act.put, List.getElem_toArray, List.getElem_cons_zero, List.getElem_cons_succ, List.setIfInBounds_toArray, List.set_cons_zero, List.set_cons_succ])
        (refine inT_read (v := ?_) rfl (Or.inl ⟨by rfl, ?_⟩) ?_; rotate_left 1; (focus (intro W hSW; clear hSW; go_simp; (try (with_reducible rfl)))); (try simp only [Act.put, List.getElem_toArray, List.getElem_cons_zero, List.getElem_cons_succ, List.setIfInBounds_toArray, List.set_cons_zero, List.set_cons_succ]))
        (refine inT_read (v := ?_) rfl (Or.inl ⟨by rfl, ?_⟩) ?_; rotate_left 1; (focus (intro W hSW; clear hSW; go_simp; (try (with_reducible rfl)))); (try simp only [Act.put, List.getElem_toArray, List.getElem_cons_zero, List.getElem_cons_succ, List.setIfInBounds_toArray, List.set_cons_zero, List.set_cons_succ]))
        (refine inT_end ?_)
        go_wp2
        go_ret
        exact ⟨rfl, HC.out.grown⟩
theorem order_walk (a b : Vl) (ha : a.t.length ≤ maxLen) (hb : b.t.length ≤ maxLen) (w : World) : Calls Try.prog 9 #[vV a, vV b] w (Told w (.bool true)) := by
  rcases hL : [a, b].any bigV with _ | _
  · rcases order_six a b with h | ⟨o, h⟩
    · exact order_bad a b ha hb hL h w
    · exact order_ok a b ha hb hL o h w
  · exact order_large a b ha hb hL w
end Go.Proofs.Ytgdpcdpkaaefbaa.Cn
namespace Go.Proofs.Ytgdpcdpkaaefbaa.Cn
open Go.ChangeShapes Go.WideShapes Go.ChangeAt Go.Deep Go.ChangeMaps Go.Proofs.Ytgdpcdpkaaefbaa.Tx
open Go.RowKit hiding Hid
set_option maxRecDepth 100000
set_option linter.unusedVariables false

theorem own : ownKnob Try.prog.godebug = none := by kernel_rfl
theorem cellsT : Try.prog.cellsOf 9 = 1 := by kernel_rfl
theorem cellsV : Try.prog.cellsOf 23 = 3 := by kernel_rfl
theorem cellsP : Try.prog.cellsOf 49 = 2 := by kernel_rfl
def Vl.ok (v : Vl) : Prop := (Lit.int .i64 v.f).wf = true ∧ (Lit.int .i64 v.n).wf = true ∧ v.t.length ≤ maxLen
def prOk (p : Pr) : Prop := (Lit.int .i64 p.1).wf = true ∧ (Lit.int .i64 p.2).wf = true
section
variable {H : Type} {enc : TypeId × Value → H} {W : World} {base b0 : Nat} {spare : Nat → Bool} {held : Bool} {r : Reach}
theorem open_text {v : Value} {d : DataW H} {p : List MemPlace} (hv : Value.okWide Try.prog W r b0 9 v) (h : DataW.Trod enc Try.prog W base spare held 9 v d p) : ∃ s : List UInt8, v = .string (bs s) ∧ s.length ≤ maxLen := by
  obtain ⟨s, rfl, _, _, hz⟩ := open_string Try.underlying9 hv h
  exact ⟨s.data.toList, by rw [bs_of], by rw [Array.length_toList]; exact hz⟩
theorem text_of {fuel : Nat} {cs : List Value} {x : DataW H × List MemPlace} (h : DataW.trod enc Try.prog W base spare held fuel 9 cs = some x) : ∃ s : List UInt8, cs = [.string (bs s)] ∧ s.length ≤ maxLen := by
  obtain ⟨s, e, _, hz⟩ := DataW.trod_string Try.underlying9 h
  exact ⟨s.data.toList, by rw [bs_of]; exact e, by rw [Array.length_toList]; exact hz⟩
theorem open_cells {k : Nat} {cs : List Value} {x : DataW H × List MemPlace} (h : DataW.trod enc Try.prog W base spare held k 23 cs = some x) : ∃ v : Vl, cs = vC v ∧ v.ok := by
  obtain ⟨xs, n, _, hx, hl, hlen, hel⟩ := DataW.trod_struct Try.underlying23 h
  rw [cellsV] at hl
  match cs, hl, xs, hlen, hel with
  | [c0, c1, c2], _, [y0, y1, y2], _, hel =>
    have h0 := hel 0 _ rfl
    have h1 := hel 1 _ rfl
    have h2 := hel 2 _ rfl
    simp [cells_i, cellsT] at h0 h1 h2
    obtain ⟨k, e0, _, w0⟩ := DataW.trod_int Try.underlying3 h0
    obtain ⟨i, e1, _, w1⟩ := DataW.trod_int Try.underlying3 h1
    obtain ⟨v, e2, w2⟩ := text_of h2
    simp at e0 e1 e2
    subst e0 e1 e2
    exact ⟨⟨k, i, v⟩, rfl, w0, w1, w2⟩
theorem open_value {x : Value} {d : DataW H} {p : List MemPlace} (hv : Value.okWide Try.prog W r b0 23 x) (h : DataW.Trod enc Try.prog W base spare held 23 x d p) : ∃ v : Vl, x = vV v ∧ v.ok := by
  obtain ⟨cs, rfl, hsz⟩ := okWide_struct Try.underlying23 hv
  obtain ⟨fuel, hf⟩ := h
  obtain ⟨v, e, ho⟩ := open_cells hf
  refine ⟨v, ?_, ho⟩
  obtain ⟨l⟩ := cs
  simp [Value.cells] at e
  subst e
  rfl
theorem pair_cells {k : Nat} {cs : List Value} {x : DataW H × List MemPlace} (h : DataW.trod enc Try.prog W base spare held k 49 cs = some x) : ∃ p : Pr, cs = prC p ∧ prOk p := by
  obtain ⟨xs, m, _, hx, hlen, hn, hel⟩ := DataW.trod_array Try.underlying49 h
  rw [cells_i] at hel
  rw [cellsP] at hlen
  match cs, hlen, xs, hn, hel with
  | [c0, c1], _, [y0, y1], _, hel =>
    have h0 := hel 0 (by decide)
    have h1 := hel 1 (by decide)
    simp at h0 h1
    obtain ⟨x, e0, _, w0⟩ := DataW.trod_int Try.underlying3 h0
    obtain ⟨y, e1, _, w1⟩ := DataW.trod_int Try.underlying3 h1
    simp at e0 e1
    subst e0 e1
    exact ⟨(x, y), rfl, w0, w1⟩
theorem cls_map {α : Type} [Inhabited α] {enc2 : α → List Value} {k : Nat} (hk : ∀ x, (enc2 x).length = k) (h0 : 0 < k) {a : Addr} {n : Nat} {f : Nat → α} (hf : ∀ i, i < n → ∀ j u, (enc2 (f i))[j]? = some u → W.cell? ((a.add (i * k)).add j) = some u) : Cls W (some a) (((List.range n).map f).flatMap enc2) := by
  intro j u hu
  refine ⟨a, rfl, ?_⟩
  have hlen : ∀ l : List α, (l.flatMap enc2).length = l.length * k := by
    intro l
    induction l with
    | nil => simp
    | cons y l ih => rw [List.flatMap_cons, List.length_append, ih, hk, List.length_cons, Nat.succ_mul]; omega
  have hj : j < n * k := by
    have := (List.getElem?_eq_some_iff.1 hu).1
    rw [hlen] at this
    simpa using this
  have hi : j / k < n := Nat.div_lt_of_lt_mul (by rw [Nat.mul_comm]; exact hj)
  have hx : ((List.range n).map f)[j / k]? = some (f (j / k)) := by simp [hi]
  have hr : j % k < k := Nat.mod_lt _ h0
  obtain ⟨z, hz⟩ : ∃ z, (enc2 (f (j / k)))[j % k]? = some z := ⟨_, List.getElem?_eq_getElem (by rw [hk]; exact hr)⟩
  have := flat_at hk _ _ _ hx _ _ hz
  have e : j / k * k + j % k = j := by rw [Nat.mul_comm]; exact Nat.div_add_mod j k
  rw [e, hu] at this
  injection this with this
  have hc := hf _ hi _ _ hz
  rw [add_add, e] at hc
  rw [this]
  exact hc
theorem open_values {ao : Option Addr} {n cp : Nat} {d : DataW H} {p : List MemPlace} (h : DataW.Trod enc Try.prog W base spare held 37 (.slice ao n cp) d p) : ∃ l : List Vl, l.length = n ∧ Cls W ao (l.flatMap vC) ∧ (∀ v ∈ l, v.ok) ∧ n ≤ maxLen ∧ (ao = none → cp = 0) := by
  obtain ⟨fuel, hf⟩ := h
  rcases open_slice Try.underlying37 hf with ⟨hcs, _⟩ | ⟨a, len, cap, m, k, D, Pl, hcs, _, hl, hm, hmm, _, hx⟩
  · simp [Value.cells] at hcs
    obtain ⟨rfl, rfl, rfl⟩ := hcs
    exact ⟨[], rfl, fun j u hu => by simp at hu, fun t ht => (by cases ht), Nat.zero_le _, fun _ => rfl⟩
  · simp [Value.cells] at hcs
    obtain ⟨rfl, rfl, rfl⟩ := hcs
    have hlm : n ≤ m := by rw [hmm]; split <;> omega
    rw [cellsV] at hx
    haveI : Inhabited Vl := ⟨⟨0, 0, []⟩⟩
    obtain ⟨f, hf⟩ := choose_lt (α := Vl) (n := n) (p := fun i s => (∀ j u, (vC s)[j]? = some u → W.cell? ((a.add (i * 3)).add j) = some u) ∧ s.ok) (fun i hi => by
      obtain ⟨cs, h1, h2⟩ := hx i (by omega)
      obtain ⟨v, e, ho⟩ := open_cells h2
      subst e
      obtain ⟨_, _, hc⟩ := World.cells?_some h1
      refine ⟨v, fun j u hu => ?_, ho⟩
      have hj : j < 3 := (List.getElem?_eq_some_iff.1 hu).1
      have := hc j hj
      rw [this, ← hu])
    refine ⟨(List.range n).map f, by simp, cls_map vC_len (by decide) (fun i hi => (hf i hi).1), fun t ht => ?_, by omega, fun e => by cases e⟩
    obtain ⟨i, hi, rfl⟩ := List.mem_map.1 ht
    exact (hf i (List.mem_range.1 hi)).2
theorem open_pairs {ao : Option Addr} {n cp : Nat} {d : DataW H} {p : List MemPlace} (h : DataW.Trod enc Try.prog W base spare held 41 (.slice ao n cp) d p) : ∃ l : List Pr, l.length = n ∧ Cls W ao (l.flatMap prC) ∧ (∀ v ∈ l, prOk v) ∧ n ≤ maxLen ∧ (ao = none → cp = 0) := by
  obtain ⟨fuel, hf⟩ := h
  rcases open_slice Try.underlying41 hf with ⟨hcs, _⟩ | ⟨a, len, cap, m, k, D, Pl, hcs, _, hl, hm, hmm, _, hx⟩
  · simp [Value.cells] at hcs
    obtain ⟨rfl, rfl, rfl⟩ := hcs
    exact ⟨[], rfl, fun j u hu => by simp at hu, fun t ht => (by cases ht), Nat.zero_le _, fun _ => rfl⟩
  · simp [Value.cells] at hcs
    obtain ⟨rfl, rfl, rfl⟩ := hcs
    have hlm : n ≤ m := by rw [hmm]; split <;> omega
    rw [cellsP] at hx
    obtain ⟨f, hf⟩ := choose_lt (α := Pr) (n := n) (p := fun i s => (∀ j u, (prC s)[j]? = some u → W.cell? ((a.add (i * 2)).add j) = some u) ∧ prOk s) (fun i hi => by
      obtain ⟨cs, h1, h2⟩ := hx i (by omega)
      obtain ⟨_, _, hc⟩ := World.cells?_some h1
      obtain ⟨v, e, ho⟩ := pair_cells h2
      subst e
      refine ⟨v, fun j u hu => ?_, ho⟩
      have hj : j < 2 := (List.getElem?_eq_some_iff.1 hu).1
      have := hc j hj
      rw [this, ← hu])
    refine ⟨(List.range n).map f, by simp, cls_map prC_len (by decide) (fun i hi => (hf i hi).1), fun t ht => ?_, by omega, fun e => by cases e⟩
    obtain ⟨i, hi, rfl⟩ := List.mem_map.1 ht
    exact (hf i (List.mem_range.1 hi)).2
end
end Go.Proofs.Ytgdpcdpkaaefbaa.Cn
