/-
  Types: extends.
  Types: extends behind a pointer, and as one.
  Types: assignOther.
  Types: assign, level.
  Types: Same, Extends, Assign, Level.
  Types' laws: the calls that each law makes at the end.
  Types' laws: the calls that each law makes at the end, walked.
-/
import Derived.Test.YthmldhppmpbadaaY9
import Derived.Test.YthmldhppmpbadaaTg18
namespace Go.Proofs.Ythmldhppmpbadaa.Ty
open Go.RowKit hiding Hid
open Go.Maps Go.Proofs.Ythmldhppmpbadaa.Tx Go.Proofs.Ythmldhppmpbadaa.Lx Go.Proofs.Ythmldhppmpbadaa.Tr Go.Proofs.Ythmldhppmpbadaa.Mp
set_option linter.unusedVariables false
set_option linter.unusedSimpArgs false
set_option maxRecDepth 100000

/- A record's base, and what a pointer points to. -/
def bsA (T : List Tt) (a : Int) : Int := match T[a.toNat]? with
  | some x => x.ba
  | none => 0
def elA (T : List Tt) (a : Int) : Int := match T[a.toNat]? with
  | some x => x.el
  | none => 0
theorem bsA_at {T : List Tt} {i : Nat} {x : Tt} (h : T[i]? = some x) : bsA T (i : Int) = x.ba := by unfold bsA; rw [show (i : Int).toNat = i from rfl, h]
theorem elA_at {T : List Tt} {i : Nat} {x : Tt} (h : T[i]? = some x) : elA T (i : Int) = x.el := by unfold elA; rw [show (i : Int).toNat = i from rfl, h]
def itb (T : List Tt) : Nat → Int → Int
  | 0, a => a
  | n + 1, a => itb T n (bsA T a)
/- A record that is another, or has it among its bases. -/
def ExR (T : List Tt) (a b : Int) : Prop := fmA T a = 9 ∧ fmA T b = 9 ∧ ∃ k, itb T k a = b
def ExA (T : List Tt) (a b : Int) : Prop := (fmA T a = 10 ∧ fmA T b = 10 ∧ ExR T (elA T a) (elA T b)) ∨ ExR T a b
theorem fm_zero {T : List Tt} (G : GoodP T) : fmA T 0 = 0 := by
  have h := G.loc.lo
  obtain ⟨x, hx⟩ : ∃ x, T[0]? = some x := ⟨T[0], List.getElem?_eq_getElem (by omega)⟩
  have := (G.loc.form (i := 0) (by omega) hx).1
  rw [show (0 : Int) = ((0 : Nat) : Int) from rfl, fmA_at hx, this]
theorem bs_next {T : List Tt} (G : GoodP T) {i : Nat} (hf : fmA T (i : Int) = 9) : bsA T i = 0 ∨ fmA T (bsA T i) = 9 := by
  obtain ⟨h0, h1, x, hx, e⟩ := fmA_in (T := T) (a := i) (by rw [hf]; decide)
  rw [show (i : Int).toNat = i from rfl] at hx
  rw [bsA_at hx]
  obtain ⟨r, hr⟩ := G.rank
  by_cases hb : x.ba = 0
  · exact .inl hb
  · obtain ⟨h2, h3, y, hy, h9⟩ := G.loc.base hr hx (by rw [e, hf]) hb
    refine .inr ?_
    rw [show x.ba = ((x.ba.toNat : Nat) : Int) by omega, fmA_at hy, h9]
theorem ExR.refl {T : List Tt} {a : Int} (h : fmA T a = 9) : ExR T a a := ⟨h, h, 0, rfl⟩
theorem itb_zero {T : List Tt} (G : GoodP T) : ∀ k, itb T k 0 = 0
  | 0 => rfl
  | k + 1 => by
    have h := G.loc.lo
    obtain ⟨x, hx⟩ : ∃ x, T[0]? = some x := ⟨T[0], List.getElem?_eq_getElem (by omega)⟩
    have hb := (G.loc.form (i := 0) (by omega) hx).2
    have : bsA T 0 = 0 := by
      rw [show (0 : Int) = ((0 : Nat) : Int) from rfl, bsA_at hx]
      unfold bareB at hb
      simp only [Bool.and_eq_true, beq_iff_eq, List.isEmpty_iff] at hb
      simp_all
    show itb T k (bsA T 0) = 0
    rw [this]
    exact itb_zero G k
theorem ExR.step {T : List Tt} (G : GoodP T) {a : Nat} {b : Int} (ha : fmA T (a : Int) = 9) (hb : fmA T b = 9) (hn : (a : Int) ≠ b) : ExR T a b ↔ ExR T (bsA T a) b := by
  constructor
  · rintro ⟨_, _, k, hk⟩
    cases k with
    | zero => exact absurd hk hn
    | succ k =>
      rcases bs_next G ha with h | h
      · have : itb T k (bsA T a) = b := hk
        rw [h, itb_zero G] at this
        rw [← this, fm_zero G] at hb
        cases hb
      · exact ⟨h, hb, k, hk⟩
  · rintro ⟨_, _, k, hk⟩
    exact ⟨ha, hb, k + 1, hk⟩
theorem lv_ghost {T : List Tt} (G : GoodP T) (i : Nat) : ∃ k, fmA T (i : Int) = 9 → ∃ n, k = n + 1 ∧ Lv T n i := by
  by_cases hf : fmA T (i : Int) = 9
  · obtain ⟨h0, h1, x, hx, e⟩ := fmA_in (T := T) (a := i) (by rw [hf]; decide)
    obtain ⟨_, n, _, hl, _⟩ := G.rcd i x hx (by rw [e, hf])
    exact ⟨n + 1, fun _ => ⟨n, rfl, hl⟩⟩
  · exact ⟨0, fun h => absurd h hf⟩
theorem lv_down {T : List Tt} (G : GoodP T) {i n q : Nat} (hl : Lv T n i) (hq : bsA T i = q) (hf : fmA T (q : Int) = 9) : ∃ m, n = m + 1 ∧ Lv T m q := by
  have hq0 : bsA T i ≠ 0 := fun e => by
    rw [hq] at e
    rw [e, fm_zero G] at hf
    cases hf
  cases n with
  | zero =>
    obtain ⟨x, hx, e⟩ := hl
    rw [bsA_at hx] at hq0
    exact absurd e hq0
  | succ m =>
    obtain ⟨x, hx, _, _, hm⟩ := hl
    rw [bsA_at hx] at hq
    rw [hq] at hm
    exact ⟨m, rfl, hm⟩
theorem plc_at {T : List Tt} {i : Nat} (h : i < T.length) : plc T (i : Int) := ⟨by omega, by omega⟩
theorem same_rec {T : List Tt} {a b : Nat} (ha : fmA T (a : Int) = 9) : SameP T a b → fmA T (b : Int) = 9 → a = b := fun h hb => by
  obtain ⟨_, _, x, hx, e⟩ := fmA_in (T := T) (a := a) (by rw [ha]; decide)
  obtain ⟨_, _, y, hy, e2⟩ := fmA_in (T := T) (a := b) (by rw [hb]; decide)
  exact h.rec hx hy (.inl (by rw [e, ha]))
theorem bs_plc {T : List Tt} (G : GoodP T) {i : Nat} (hf : fmA T (i : Int) = 9) : ∃ q : Nat, bsA T i = q ∧ q < T.length := by
  rcases bs_next G hf with h | h
  · exact ⟨0, h, by have := G.loc.lo; omega⟩
  · obtain ⟨h0, h1, _⟩ := fmA_in (T := T) (a := bsA T i) (by rw [h]; decide)
    exact ⟨(bsA T i).toNat, by omega, by omega⟩
theorem el_plc {T : List Tt} (G : GoodP T) {i : Nat} (hi : i < T.length) : ∃ q : Nat, elA T i = q ∧ q < T.length := by
  have hx := List.getElem?_eq_getElem hi
  have := (PlA.of G hx).el
  rw [elA_at hx]
  obtain ⟨t1, t2⟩ := this
  exact ⟨T[i].el.toNat, by omega, by omega⟩
theorem base_cell {w : World} {ad : Addr} {T : List Tt} {q : Nat} {B : Addr} (H : Tab w (some ad) T) (hq : q < T.length) (hB : ad.add (q * 10) = B) : w.cell? ⟨B.block, B.off + 5, none⟩ = some (.int .i64 (bsA T (q : Int))) := by
  obtain ⟨x, hx⟩ : ∃ x, T[q]? = some x := ⟨T[q], List.getElem?_eq_getElem hq⟩
  obtain ⟨ad', la, e1, rfl, hcl, hp⟩ := H.at hx
  cases e1
  rw [hB] at hcl
  rw [bsA_at hx]
  exact (ten_of hcl).2.2.2.2.2.1
theorem elem_cell {w : World} {ad : Addr} {T : List Tt} {q : Nat} {B : Addr} (H : Tab w (some ad) T) (hq : q < T.length) (hB : ad.add (q * 10) = B) : w.cell? ⟨B.block, B.off + 4, none⟩ = some (.int .i64 (elA T (q : Int))) := by
  obtain ⟨x, hx⟩ : ∃ x, T[q]? = some x := ⟨T[q], List.getElem?_eq_getElem hq⟩
  obtain ⟨ad', la, e1, rfl, hcl, hp⟩ := H.at hx
  cases e1
  rw [hB] at hcl
  rw [elA_at hx]
  exact (ten_of hcl).2.2.2.2.1
def ExO (T : List Tt) (a b : Int) (w : World) (e : Ending) (w' : World) : Prop := ∃ r, e = .returned (.bool r) ∧ w.grownBy w' none ∧ (r = true ↔ ExA T a b)
theorem ExO.of {T : List Tt} {a b : Int} {w w' : World} {r : Bool} (h1 : w.grownBy w' none) (h2 : r = true ↔ ExA T a b) : ExO T a b w (.returned (.bool r)) w' := ⟨r, rfl, h1, h2⟩
set_option maxHeartbeats 4000000 in
theorem ext_loop {w : World} {ad : Addr} {T : List Tt} (cp : Nat) (H : Tab w (some ad) T) (G : GoodP T) (hcp : T.length ≤ cp) {a b : Nat} (ha : a < T.length) (hb : b < T.length) (h10 : (fmA T (a : Int) == 10 && fmA T (b : Int) == 10) = false) : Calls Try.prog 57 #[.slice (some ad) T.length cp, .int .i64 a, .int .i64 b] w (ExO T a b w) := by
  have HT := hide H
  have HG := hide G
  have HCP := hide hcp
  have HX := hide (show ExA T a b ↔ ExR T a b from ⟨fun h => h.elim (fun h => by rw [h.1, h.2.1] at h10; cases h10) id, .inr⟩)
  obtain ⟨g0, hg0⟩ := lv_ghost G a
  have HG0 := hide hg0
  have HPj := hide (plc_at hb)
  have jb : (b : Int) < T.length := by omega
  have HTW := HT
  have h9 := h10
  clear hg0 H G hcp h10
  go_enter Try.func57, Try.ntmps57
  go_wp2_with (go_at_call 87; refine (both_at cp _ HTW.out ha hb).mono ?_; rw [h9]; rintro e w2 ⟨rfl, hw⟩; have hw := hw.symm; subst hw)
  clear h9 HTW
  go_loopg [1] g0 (fun k av W => ∃ p : Nat, av = .int .i64 p ∧ p < T.length ∧ Hid (w.grownBy W none) ∧ Hid (fmA T (p : Int) = 9 → ∃ n, k = n + 1 ∧ Lv T n p) ∧ Hid (ExR T a b ↔ ExR T p b))
  case atStart => exact ⟨a, rfl, ha, hide (grown_refl _ _), HG0, hide Iff.rfl⟩
  case round =>
    obtain ⟨p, rfl, hp, HW, HN, HE⟩ := hrel
    have HTW := hide (HT.out.kept HW.out)
    cases h9 : (fmA T (p : Int) == 9 && fmA T (b : Int) == 9) with
    | false =>
      go_wp2_with (go_at_call 87; refine (both_at cp _ HTW.out hp hb).mono ?_; rw [h9]; rintro e w2 ⟨rfl, hw⟩; have hw := hw.symm; subst hw)
      go_ret
      refine ExO.of HW.out ⟨(fun e => by cases e), fun h => ?_⟩
      have h1 := HE.out.1 (HX.out.1 h)
      rw [h1.1, h1.2.1] at h9
      cases h9
    | true =>
      have h99 := h9
      simp only [Bool.and_eq_true, beq_iff_eq] at h99
      have HPp := hide (plc_at hp)
      have HF := hide h99
      clear h99
      by_cases hpb : p = b
      · have HS := hide (show SameP T (p : Int) (b : Int) by rw [hpb]; exact SameP.refl _ _)
        have HQ := hide (show ExR T (p : Int) (b : Int) by rw [hpb]; exact ExR.refl HF.out.2)
        clear hpb
        go_wp2_with (first | (go_at_call 87; refine (both_at cp _ HTW.out hp hb).mono ?_; rw [h9]; rintro e w2 ⟨rfl, hw⟩; have hw := hw.symm; subst hw) | (go_at_call 56; refine (same_at cp HTW.out HG.out HCP.out _ _ HPp.out HPj.out).mono ?_; rintro e w2 ⟨r, rfl, hg, hr⟩; obtain rfl : r = true := hr.2 HS.out; replace HW := hide (HW.out.trans hg); clear hg hr))
        go_ret
        exact ExO.of HW.out ⟨fun _ => HX.out.2 (HE.out.2 HQ.out), fun _ => rfl⟩
      · have HS := hide (show ¬ SameP T (p : Int) (b : Int) from fun h => hpb (same_rec HF.out.1 h HF.out.2))
        have HQ := hide (show (p : Int) ≠ (b : Int) by omega)
        clear hpb
        obtain ⟨q, hq, hql⟩ := bs_plc HG.out HF.out.1
        obtain ⟨B, hB⟩ : ∃ B, ad.add (p * 10) = B := ⟨_, rfl⟩
        have c5 := base_cell HTW.out hp hB
        rw [hq] at c5
        have bl := block_lt_of_cell c5
        have jp : (p : Int) < T.length := by omega
        have HBq := hide hq
        clear hq
        go_wp2_with (first | (go_at_call 87; refine (both_at cp _ HTW.out hp hb).mono ?_; rw [h9]; rintro e w2 ⟨rfl, hw⟩; have hw := hw.symm; subst hw) | (go_at_call 56; refine (same_at cp HTW.out HG.out HCP.out _ _ HPp.out HPj.out).mono ?_; rintro e w2 ⟨r, rfl, hg, hr⟩; obtain rfl : r = false := by { cases r with | false => rfl | true => exact absurd (hr.1 rfl) HS.out }; have c6 := hg.cell c5 (by simp); have bl6 := block_lt_of_cell c6; replace HW := hide (HW.out.trans hg); clear hg hr))
        obtain ⟨n, hn, hl⟩ := HN.out HF.out.1
        obtain ⟨k, hk⟩ := lv_ghost HG.out q
        by_cases hf9 : fmA T (q : Int) = 9
        · obtain ⟨m, hm, hlm⟩ := lv_down HG.out hl HBq.out hf9
          go_roundg n
          case measure => omega
          case rel => exact ⟨q, rfl, hql, HW, hide (fun _ => ⟨m, hm, hlm⟩), hide (HE.out.trans (by rw [← HBq.out]; exact ExR.step HG.out HF.out.1 HF.out.2 HQ.out))⟩
        · go_roundg n
          case measure => omega
          case rel => exact ⟨q, rfl, hql, HW, hide (fun h => absurd h hf9), hide (HE.out.trans (by rw [← HBq.out]; exact ExR.step HG.out HF.out.1 HF.out.2 HQ.out))⟩
end Go.Proofs.Ythmldhppmpbadaa.Ty
namespace Go.Proofs.Ythmldhppmpbadaa.Ty
open Go.RowKit hiding Hid
open Go.Maps Go.Proofs.Ythmldhppmpbadaa.Tx Go.Proofs.Ythmldhppmpbadaa.Lx Go.Proofs.Ythmldhppmpbadaa.Tr Go.Proofs.Ythmldhppmpbadaa.Mp
set_option linter.unusedVariables false
set_option linter.unusedSimpArgs false
set_option maxRecDepth 100000

set_option maxHeartbeats 4000000 in
theorem ext_ptr {w : World} {ad : Addr} {T : List Tt} (cp : Nat) (H : Tab w (some ad) T) (G : GoodP T) (hcp : T.length ≤ cp) {a b : Nat} (ha : a < T.length) (hb : b < T.length) (h10 : (fmA T (a : Int) == 10 && fmA T (b : Int) == 10) = true) : Calls Try.prog 57 #[.slice (some ad) T.length cp, .int .i64 a, .int .i64 b] w (ExO T a b w) := by
  have HT := hide H
  have HG := hide G
  have HCP := hide hcp
  obtain ⟨q, hq, hql⟩ := el_plc G ha
  obtain ⟨q2, hq2, hq2l⟩ := el_plc G hb
  have hab := h10
  simp only [Bool.and_eq_true, beq_iff_eq] at hab
  have HX := hide (show ExA T a b ↔ ExR T q q2 from ⟨fun h => h.elim (fun h => by rw [← hq, ← hq2]; exact h.2.2) (fun h => by have := h.1; rw [hab.1] at this; cases this), fun h => .inl ⟨hab.1, hab.2, by rw [hq, hq2]; exact h⟩⟩)
  obtain ⟨g0, hg0⟩ := lv_ghost G q
  have HG0 := hide hg0
  have HPj := hide (plc_at hq2l)
  have ja : (a : Int) < T.length := by omega
  have jb : (b : Int) < T.length := by omega
  have jb2 : (q2 : Int) < T.length := by omega
  have HTW := HT
  have h9 := h10
  obtain ⟨B, hB⟩ : ∃ B, ad.add (a * 10) = B := ⟨_, rfl⟩
  obtain ⟨B2, hB2⟩ : ∃ B, ad.add (b * 10) = B := ⟨_, rfl⟩
  have c0 := elem_cell H ha hB
  have c1 := elem_cell H hb hB2
  have bl := block_lt_of_cell c0
  have bl2 := block_lt_of_cell c1
  rw [hq] at c0
  rw [hq2] at c1
  clear hg0 H G hcp h10 hab hq hq2
  go_enter Try.func57, Try.ntmps57
  go_upto_region 2 with (go_at_call 87; refine (both_at cp _ HTW.out ha hb).mono ?_; rw [h9]; rintro e w2 ⟨rfl, hw⟩; have hw := hw.symm; subst hw)
  skip; refine wp_region_inN (fun W => W.cell? ⟨B.block, B.off + 4, none⟩ = some (.int .i64 (q : Int)) ∧ W.cell? ⟨B2.block, B2.off + 4, none⟩ = some (.int .i64 (q2 : Int))) [11] (Pn.of [(1, 0), (1, 1), (1, 2), (1, 3), (1, 4), (1, 5), (1, 6), (1, 7), (1, 8), (1, 9), (1, 10), (0, 11)] .nil) (by kernel_rfl) (by kernel_rfl) (by kernel_rfl) (by kernel_rfl) (fun _ _ d _ _ h => by cases d <;> exact h) ⟨c0, c1⟩ ?_
  (refine inN_read (v := ?_) rfl (Or.inl ⟨by rfl, ?_⟩) ?_; rotate_left 1; (focus (intro W hSW; clear hSW; go_simp; (try (with_reducible rfl)))); (try simp only [Act.put, List.getElem_toArray, List.getElem_cons_zero, List.getElem_cons_succ, List.setIfInBounds_toArray, List.set_cons_zero, List.set_cons_succ]))
  (refine inN_read (v := ?_) rfl (Or.inl ⟨by rfl, ?_⟩) ?_; rotate_left 1; (focus (intro W hSW; clear hSW; go_simp; (try (with_reducible rfl)))); (try simp only [Act.put, List.getElem_toArray, List.getElem_cons_zero, List.getElem_cons_succ, List.setIfInBounds_toArray, List.set_cons_zero, List.set_cons_succ]))
  (refine inN_read (v := ?_) rfl (Or.inl ⟨by rfl, ?_⟩) ?_; rotate_left 1; (focus (intro W hSW; clear hSW; go_simp; (try (with_reducible rfl)))); (try simp only [Act.put, List.getElem_toArray, List.getElem_cons_zero, List.getElem_cons_succ, List.setIfInBounds_toArray, List.set_cons_zero, List.set_cons_succ]))
  (refine inN_read (v := ?_) rfl (Or.inl ⟨by rfl, ?_⟩) ?_; rotate_left 1; (focus (intro W hSW; clear hSW; go_simp; (try (with_reducible rfl)))); (try simp only [Act.put, List.getElem_toArray, List.getElem_cons_zero, List.getElem_cons_succ, List.setIfInBounds_toArray, List.set_cons_zero, List.set_cons_succ]))
  (refine inN_read rfl (yl_cell tcI rfl rfl rfl (fun W hS => hS.1)) ?_; (try simp only [Act.put, List.getElem_toArray, List.getElem_cons_zero, List.getElem_cons_succ, List.setIfInBounds_toArray, List.set_cons_zero, List.set_cons_succ]))
  (refine inN_read (v := ?_) rfl (Or.inl ⟨by rfl, ?_⟩) ?_; rotate_left 1; (focus (intro W hSW; clear hSW; go_simp; (try (with_reducible rfl)))); (try simp only [Act.put, List.getElem_toArray, List.getElem_cons_zero, List.getElem_cons_succ, List.setIfInBounds_toArray, List.set_cons_zero, List.set_cons_succ]))
  (refine inN_read (v := ?_) rfl (Or.inl ⟨by rfl, ?_⟩) ?_; rotate_left 1; (focus (intro W hSW; clear hSW; go_simp; (try (with_reducible rfl)))); (try simp only [Act.put, List.getElem_toArray, List.getElem_cons_zero, List.getElem_cons_succ, List.setIfInBounds_toArray, List.set_cons_zero, List.set_cons_succ]))
  (refine inN_read (v := ?_) rfl (Or.inl ⟨by rfl, ?_⟩) ?_; rotate_left 1; (focus (intro W hSW; clear hSW; go_simp; (try (with_reducible rfl)))); (try simp only [Act.put, List.getElem_toArray, List.getElem_cons_zero, List.getElem_cons_succ, List.setIfInBounds_toArray, List.set_cons_zero, List.set_cons_succ]))
  (refine inN_read (v := ?_) rfl (Or.inl ⟨by rfl, ?_⟩) ?_; rotate_left 1; (focus (intro W hSW; clear hSW; go_simp; (try (with_reducible rfl)))); (try simp only [Act.put, List.getElem_toArray, List.getElem_cons_zero, List.getElem_cons_succ, List.setIfInBounds_toArray, List.set_cons_zero, List.set_cons_succ]))
  (refine inN_read rfl (yl_cell tcI rfl rfl rfl (fun W hS => hS.2)) ?_; (try simp only [Act.put, List.getElem_toArray, List.getElem_cons_zero, List.getElem_cons_succ, List.setIfInBounds_toArray, List.set_cons_zero, List.set_cons_succ]))
  (refine inN_read (v := ?_) rfl (Or.inl ⟨by rfl, ?_⟩) ?_; rotate_left 1; (focus (intro W hSW; clear hSW; go_simp; (try (with_reducible rfl)))); (try simp only [Act.put, List.getElem_toArray, List.getElem_cons_zero, List.getElem_cons_succ, List.setIfInBounds_toArray, List.set_cons_zero, List.set_cons_succ]))
  (refine inN_pure (v := ?_) rfl (Or.inl ⟨by rfl, ?_⟩) ?_; rotate_left 1; (focus (intro W hSW; clear hSW; go_simp; (try (with_reducible rfl)))); (try simp only [Act.put, List.getElem_toArray, List.getElem_cons_zero, List.getElem_cons_succ, List.setIfInBounds_toArray, List.set_cons_zero, List.set_cons_succ]))
  refine inN_end ?_
  go_wp2
  clear h9 HTW bl bl2 c0 c1 hB hB2
  go_loopg [1] g0 (fun k av W => ∃ p : Nat, av = .int .i64 p ∧ p < T.length ∧ Hid (w.grownBy W none) ∧ Hid (fmA T (p : Int) = 9 → ∃ n, k = n + 1 ∧ Lv T n p) ∧ Hid (ExR T q q2 ↔ ExR T p q2))
  case atStart => exact ⟨q, rfl, hql, hide (d1_g _), HG0, hide Iff.rfl⟩
  case round =>
    obtain ⟨p, rfl, hp, HW, HN, HE⟩ := hrel
    have HTW := hide (HT.out.kept HW.out)
    cases h9 : (fmA T (p : Int) == 9 && fmA T (q2 : Int) == 9) with
    | false =>
      go_wp2_with (go_at_call 87; refine (both_at cp _ HTW.out hp hq2l).mono ?_; rw [h9]; rintro e w2 ⟨rfl, hw⟩; have hw := hw.symm; subst hw)
      go_ret
      refine ExO.of HW.out ⟨(fun e => by cases e), fun h => ?_⟩
      have h1 := HE.out.1 (HX.out.1 h)
      rw [h1.1, h1.2.1] at h9
      cases h9
    | true =>
      have h99 := h9
      simp only [Bool.and_eq_true, beq_iff_eq] at h99
      have HPp := hide (plc_at hp)
      have HF := hide h99
      clear h99
      by_cases hpb : p = q2
      · have HS := hide (show SameP T (p : Int) (q2 : Int) by rw [hpb]; exact SameP.refl _ _)
        have HQ := hide (show ExR T (p : Int) (q2 : Int) by rw [hpb]; exact ExR.refl HF.out.2)
        clear hpb
        go_wp2_with (first | (go_at_call 87; refine (both_at cp _ HTW.out hp hq2l).mono ?_; rw [h9]; rintro e w2 ⟨rfl, hw⟩; have hw := hw.symm; subst hw) | (go_at_call 56; refine (same_at cp HTW.out HG.out HCP.out _ _ HPp.out HPj.out).mono ?_; rintro e w2 ⟨r, rfl, hg, hr⟩; obtain rfl : r = true := hr.2 HS.out; replace HW := hide (HW.out.trans hg); clear hg hr))
        go_ret
        exact ExO.of HW.out ⟨fun _ => HX.out.2 (HE.out.2 HQ.out), fun _ => rfl⟩
      · have HS := hide (show ¬ SameP T (p : Int) (q2 : Int) from fun h => hpb (same_rec HF.out.1 h HF.out.2))
        have HQ := hide (show (p : Int) ≠ (q2 : Int) by omega)
        clear hpb
        obtain ⟨s, hs, hsl⟩ := bs_plc HG.out HF.out.1
        obtain ⟨B, hB⟩ : ∃ B, ad.add (p * 10) = B := ⟨_, rfl⟩
        have c5 := base_cell HTW.out hp hB
        rw [hs] at c5
        have bl := block_lt_of_cell c5
        have jp : (p : Int) < T.length := by omega
        have HBq := hide hs
        clear hs
        go_wp2_with (first | (go_at_call 87; refine (both_at cp _ HTW.out hp hq2l).mono ?_; rw [h9]; rintro e w2 ⟨rfl, hw⟩; have hw := hw.symm; subst hw) | (go_at_call 56; refine (same_at cp HTW.out HG.out HCP.out _ _ HPp.out HPj.out).mono ?_; rintro e w2 ⟨r, rfl, hg, hr⟩; obtain rfl : r = false := by { cases r with | false => rfl | true => exact absurd (hr.1 rfl) HS.out }; have c6 := hg.cell c5 (by simp); have bl6 := block_lt_of_cell c6; replace HW := hide (HW.out.trans hg); clear hg hr))
        obtain ⟨n, hn, hl⟩ := HN.out HF.out.1
        obtain ⟨k, hk⟩ := lv_ghost HG.out s
        by_cases hf9 : fmA T (s : Int) = 9
        · obtain ⟨m, hm, hlm⟩ := lv_down HG.out hl HBq.out hf9
          go_roundg n
          case measure => omega
          case rel => exact ⟨s, rfl, hsl, HW, hide (fun _ => ⟨m, hm, hlm⟩), hide (HE.out.trans (by rw [← HBq.out]; exact ExR.step HG.out HF.out.1 HF.out.2 HQ.out))⟩
        · go_roundg n
          case measure => omega
          case rel => exact ⟨s, rfl, hsl, HW, hide (fun h => absurd h hf9), hide (HE.out.trans (by rw [← HBq.out]; exact ExR.step HG.out HF.out.1 HF.out.2 HQ.out))⟩

theorem extends_at {w : World} {o : Option Addr} {T : List Tt} (cp : Nat) (H : Tab w o T) (G : GoodP T) (hcp : T.length ≤ cp) {a b : Nat} (ha : a < T.length) (hb : b < T.length) : Calls Try.prog 57 #[.slice o T.length cp, .int .i64 a, .int .i64 b] w (ExO T a b w) := by
  obtain ⟨ad, la, rfl, _⟩ := H.at (List.getElem?_eq_getElem ha)
  cases h10 : (fmA T (a : Int) == 10 && fmA T (b : Int) == 10) with
  | true => exact ext_ptr cp H G hcp ha hb h10
  | false => exact ext_loop cp H G hcp ha hb h10
end Go.Proofs.Ythmldhppmpbadaa.Ty
namespace Go.Proofs.Ythmldhppmpbadaa.Ty
open Go.RowKit hiding Hid
open Go.Maps Go.Proofs.Ythmldhppmpbadaa.Tx Go.Proofs.Ythmldhppmpbadaa.Lx Go.Proofs.Ythmldhppmpbadaa.Tr Go.Proofs.Ythmldhppmpbadaa.Mp
set_option linter.unusedVariables false
set_option linter.unusedSimpArgs false
set_option maxRecDepth 100000

def OthA (T : List Tt) (a b : Int) : Prop := (fmA T a = 5 ∧ (fmA T b = 10 ∨ fmA T b = 11)) ∨ (fmA T a = 6 ∧ fmA T b = 7 ∧ elA T b = 3) ∨ (fmA T a = 8 ∧ fmA T b = 7 ∧ SameP T (elA T a) (elA T b))
/- A yes or no that tells whether Q; the world has grown. -/
def BQ (Q : Prop) (w : World) (e : Ending) (w' : World) : Prop := ∃ r, e = .returned (.bool r) ∧ w.grownBy w' none ∧ (r = true ↔ Q)
theorem BQ.of {Q : Prop} {w w' : World} {r : Bool} (h1 : w.grownBy w' none) (h2 : r = true ↔ Q) : BQ Q w (.returned (.bool r)) w' := ⟨r, rfl, h1, h2⟩
theorem BQ.iff {P Q : Prop} {w w' : World} {e : Ending} (h : BQ P w e w') (hi : P ↔ Q) : BQ Q w e w' := by
  obtain ⟨r, h1, h2, h3⟩ := h
  exact ⟨r, h1, h2, h3.trans hi⟩
set_option maxHeartbeats 4000000 in
theorem other_at {w : World} {o : Option Addr} {T : List Tt} (cp : Nat) (H : Tab w o T) (G : GoodP T) (hcp : T.length ≤ cp) {a b : Nat} (ha : a < T.length) (hb : b < T.length) : Calls Try.prog 89 #[.slice o T.length cp, .int .i64 a, .int .i64 b] w (BQ (OthA T a b) w) := by
  obtain ⟨ad, la, rfl, _⟩ := H.at (List.getElem?_eq_getElem ha)
  have HTW := hide H
  have HG := hide G
  have HCP := hide hcp
  obtain ⟨B, hB⟩ : ∃ B, ad.add (a * 10) = B := ⟨_, rfl⟩
  obtain ⟨B2, hB2⟩ : ∃ B, ad.add (b * 10) = B := ⟨_, rfl⟩
  have c0 := form_cell H ha hB
  have c1 := form_cell H hb hB2
  have d0 := elem_cell H ha hB
  have d1 := elem_cell H hb hB2
  have bl := block_lt_of_cell c0
  have bl2 := block_lt_of_cell c1
  have ja : (a : Int) < T.length := by omega
  have jb : (b : Int) < T.length := by omega
  have HPe := hide (show plc T (elA T a) by obtain ⟨q, h1, h2⟩ := el_plc G ha; rw [h1]; exact plc_at h2)
  have HPf := hide (show plc T (elA T b) by obtain ⟨q, h1, h2⟩ := el_plc G hb; rw [h1]; exact plc_at h2)
  suffices h : ∀ (x y e f : Int) (Q : Prop), fmA T a = x → fmA T b = y → elA T a = e → elA T b = f → (Q ↔ ((x = 5 ∧ (y = 10 ∨ y = 11)) ∨ (x = 6 ∧ y = 7 ∧ f = 3) ∨ (x = 8 ∧ y = 7 ∧ SameP T e f))) → Calls Try.prog 89 #[.slice (some ad) T.length cp, .int .i64 a, .int .i64 b] w (BQ Q w) from h _ _ _ _ _ rfl rfl rfl rfl Iff.rfl
  intro x y e f Q hx hy he hf hQ
  rw [hx] at c0
  rw [hy] at c1
  rw [he] at d0 HPe
  rw [hf] at d1 HPf
  clear H G hcp hx hy he hf
  have HQ := hide hQ
  clear hQ
  by_cases x5 : x = 5
  · subst x5
    go_enter Try.func89, Try.ntmps89
    go_wp2
    all_goals (go_ret; refine BQ.of (grown_refl _ _) ?_; have hQ := HQ.out; clear HQ HTW HG HCP HPe HPf c0 c1 d0 d1; rw [hQ]; clear hQ; simp_all)
  by_cases x6 : x = 6
  · subst x6
    go_enter Try.func89, Try.ntmps89
    go_wp2
    all_goals (go_ret; refine BQ.of (grown_refl _ _) ?_; have hQ := HQ.out; clear HQ HTW HG HCP HPe HPf c0 c1 d0 d1; rw [hQ]; clear hQ; simp_all)
  by_cases x8 : x = 8
  · subst x8
    by_cases y7 : y = 7
    · subst y7
      go_enter Try.func89, Try.ntmps89
      go_upto_region 7 with (fail)
      have HD := hide (d1_g w); have HTD := hide (HTW.out.kept (d1_g w)); refine wp_region_inN (fun W => W.cell? B2 = some (.int .i64 7) ∧ W.cell? ⟨B.block, B.off + 4, none⟩ = some (.int .i64 e) ∧ W.cell? ⟨B2.block, B2.off + 4, none⟩ = some (.int .i64 f)) [18] (Pn.of [(1, 0), (1, 1), (1, 2), (1, 3), (1, 4), (1, 5), (1, 6), (1, 7), (1, 8), (1, 9), (1, 10), (1, 11), (1, 12), (1, 13), (1, 14), (1, 15), (1, 16), (1, 17), (2, 18), (0, 19), (0, 20)] .nil) (by kernel_rfl) (by kernel_rfl) (by kernel_rfl) (by kernel_rfl) (fun _ _ d _ _ h => by cases d <;> exact h) ⟨c1, d0, d1⟩ ?_
      (refine inN_read (v := ?_) rfl (Or.inl ⟨by rfl, ?_⟩) ?_; rotate_left 1; (focus (intro W hSW; clear hSW; go_simp; (try (with_reducible rfl)))); (try simp only [Act.put, List.getElem_toArray, List.getElem_cons_zero, List.getElem_cons_succ, List.setIfInBounds_toArray, List.set_cons_zero, List.set_cons_succ]))
      (refine inN_read (v := ?_) rfl (Or.inl ⟨by rfl, ?_⟩) ?_; rotate_left 1; (focus (intro W hSW; clear hSW; go_simp; (try (with_reducible rfl)))); (try simp only [Act.put, List.getElem_toArray, List.getElem_cons_zero, List.getElem_cons_succ, List.setIfInBounds_toArray, List.set_cons_zero, List.set_cons_succ]))
      (refine inN_read (v := ?_) rfl (Or.inl ⟨by rfl, ?_⟩) ?_; rotate_left 1; (focus (intro W hSW; clear hSW; go_simp; (try (with_reducible rfl)))); (try simp only [Act.put, List.getElem_toArray, List.getElem_cons_zero, List.getElem_cons_succ, List.setIfInBounds_toArray, List.set_cons_zero, List.set_cons_succ]))
      (refine inN_read (v := ?_) rfl (Or.inl ⟨by rfl, ?_⟩) ?_; rotate_left 1; (focus (intro W hSW; clear hSW; go_simp; (try (with_reducible rfl)))); (try simp only [Act.put, List.getElem_toArray, List.getElem_cons_zero, List.getElem_cons_succ, List.setIfInBounds_toArray, List.set_cons_zero, List.set_cons_succ]))
      (refine inN_read rfl (yl_cell tcI rfl rfl rfl (fun W hS => hS.1)) ?_; (try simp only [Act.put, List.getElem_toArray, List.getElem_cons_zero, List.getElem_cons_succ, List.setIfInBounds_toArray, List.set_cons_zero, List.set_cons_succ]))
      (refine inN_read (v := ?_) rfl (Or.inl ⟨by rfl, ?_⟩) ?_; rotate_left 1; (focus (intro W hSW; clear hSW; go_simp; (try (with_reducible rfl)))); (try simp only [Act.put, List.getElem_toArray, List.getElem_cons_zero, List.getElem_cons_succ, List.setIfInBounds_toArray, List.set_cons_zero, List.set_cons_succ]))
      (refine inN_read (v := ?_) rfl (Or.inl ⟨by rfl, ?_⟩) ?_; rotate_left 1; (focus (intro W hSW; clear hSW; go_simp; (try (with_reducible rfl)))); (try simp only [Act.put, List.getElem_toArray, List.getElem_cons_zero, List.getElem_cons_succ, List.setIfInBounds_toArray, List.set_cons_zero, List.set_cons_succ]))
      (refine inN_read (v := ?_) rfl (Or.inl ⟨by rfl, ?_⟩) ?_; rotate_left 1; (focus (intro W hSW; clear hSW; go_simp; (try (with_reducible rfl)))); (try simp only [Act.put, List.getElem_toArray, List.getElem_cons_zero, List.getElem_cons_succ, List.setIfInBounds_toArray, List.set_cons_zero, List.set_cons_succ]))
      (refine inN_read (v := ?_) rfl (Or.inl ⟨by rfl, ?_⟩) ?_; rotate_left 1; (focus (intro W hSW; clear hSW; go_simp; (try (with_reducible rfl)))); (try simp only [Act.put, List.getElem_toArray, List.getElem_cons_zero, List.getElem_cons_succ, List.setIfInBounds_toArray, List.set_cons_zero, List.set_cons_succ]))
      (refine inN_read (v := ?_) rfl (Or.inl ⟨by rfl, ?_⟩) ?_; rotate_left 1; (focus (intro W hSW; clear hSW; go_simp; (try (with_reducible rfl)))); (try simp only [Act.put, List.getElem_toArray, List.getElem_cons_zero, List.getElem_cons_succ, List.setIfInBounds_toArray, List.set_cons_zero, List.set_cons_succ]))
      (refine inN_read (v := ?_) rfl (Or.inl ⟨by rfl, ?_⟩) ?_; rotate_left 1; (focus (intro W hSW; clear hSW; go_simp; (try (with_reducible rfl)))); (try simp only [Act.put, List.getElem_toArray, List.getElem_cons_zero, List.getElem_cons_succ, List.setIfInBounds_toArray, List.set_cons_zero, List.set_cons_succ]))
      (refine inN_read (v := ?_) rfl (Or.inl ⟨by rfl, ?_⟩) ?_; rotate_left 1; (focus (intro W hSW; clear hSW; go_simp; (try (with_reducible rfl)))); (try simp only [Act.put, List.getElem_toArray, List.getElem_cons_zero, List.getElem_cons_succ, List.setIfInBounds_toArray, List.set_cons_zero, List.set_cons_succ]))
      (refine inN_read rfl (yl_cell tcI rfl rfl rfl (fun W hS => hS.2.1)) ?_; (try simp only [Act.put, List.getElem_toArray, List.getElem_cons_zero, List.getElem_cons_succ, List.setIfInBounds_toArray, List.set_cons_zero, List.set_cons_succ]))
      (refine inN_read (v := ?_) rfl (Or.inl ⟨by rfl, ?_⟩) ?_; rotate_left 1; (focus (intro W hSW; clear hSW; go_simp; (try (with_reducible rfl)))); (try simp only [Act.put, List.getElem_toArray, List.getElem_cons_zero, List.getElem_cons_succ, List.setIfInBounds_toArray, List.set_cons_zero, List.set_cons_succ]))
      (refine inN_read (v := ?_) rfl (Or.inl ⟨by rfl, ?_⟩) ?_; rotate_left 1; (focus (intro W hSW; clear hSW; go_simp; (try (with_reducible rfl)))); (try simp only [Act.put, List.getElem_toArray, List.getElem_cons_zero, List.getElem_cons_succ, List.setIfInBounds_toArray, List.set_cons_zero, List.set_cons_succ]))
      (refine inN_read (v := ?_) rfl (Or.inl ⟨by rfl, ?_⟩) ?_; rotate_left 1; (focus (intro W hSW; clear hSW; go_simp; (try (with_reducible rfl)))); (try simp only [Act.put, List.getElem_toArray, List.getElem_cons_zero, List.getElem_cons_succ, List.setIfInBounds_toArray, List.set_cons_zero, List.set_cons_succ]))
      (refine inN_read (v := ?_) rfl (Or.inl ⟨by rfl, ?_⟩) ?_; rotate_left 1; (focus (intro W hSW; clear hSW; go_simp; (try (with_reducible rfl)))); (try simp only [Act.put, List.getElem_toArray, List.getElem_cons_zero, List.getElem_cons_succ, List.setIfInBounds_toArray, List.set_cons_zero, List.set_cons_succ]))
      (refine inN_read rfl (yl_cell tcI rfl rfl rfl (fun W hS => hS.2.2)) ?_; (try simp only [Act.put, List.getElem_toArray, List.getElem_cons_zero, List.getElem_cons_succ, List.setIfInBounds_toArray, List.set_cons_zero, List.set_cons_succ]))
      refine inN_act rfl rfl (fun K' hK => ?_); go_simp; refine (same_at cp HTD.out HG.out HCP.out _ _ HPe.out HPf.out).mono ?_; rintro en w2 ⟨r, rfl, hg, hr⟩; have HW := hide hg; have HR := hide hr; clear hg hr; go_simp; (refine hK _ _ (.inl rfl) ?_; clear hK K'; (try simp only [Act.put, List.getElem_toArray, List.getElem_cons_zero, List.getElem_cons_succ, List.setIfInBounds_toArray, List.set_cons_zero, List.set_cons_succ]))
      (refine inN_pure (v := ?_) rfl (Or.inl ⟨by rfl, ?_⟩) ?_; rotate_left 1; (focus (intro W hSW; clear hSW; go_simp; (try (with_reducible rfl)))); (try simp only [Act.put, List.getElem_toArray, List.getElem_cons_zero, List.getElem_cons_succ, List.setIfInBounds_toArray, List.set_cons_zero, List.set_cons_succ]))
      (refine inN_pure (v := ?_) rfl (Or.inl ⟨by rfl, ?_⟩) ?_; rotate_left 1; (focus (intro W hSW; clear hSW; go_simp; (try (with_reducible rfl)))); (try simp only [Act.put, List.getElem_toArray, List.getElem_cons_zero, List.getElem_cons_succ, List.setIfInBounds_toArray, List.set_cons_zero, List.set_cons_succ]))
      refine inN_end ?_
      go_wp2
      go_ret
      refine BQ.of (HD.out.trans HW.out) ?_
      rw [HQ.out]
      have hr := HR.out
      clear HQ HR
      simp_all
    · have y7' : (y == 7) = false := by simpa using y7
      go_enter Try.func89, Try.ntmps89
      go_upto_region 7 with (fail)
      have HD := hide (d1_g w); have HTD := hide (HTW.out.kept (d1_g w)); refine wp_region_inN (fun W => W.cell? B2 = some (.int .i64 y) ∧ W.cell? ⟨B.block, B.off + 4, none⟩ = some (.int .i64 e) ∧ W.cell? ⟨B2.block, B2.off + 4, none⟩ = some (.int .i64 f)) [18] (Pn.of [(1, 0), (1, 1), (1, 2), (1, 3), (1, 4), (1, 5), (1, 6), (1, 7), (1, 8), (1, 9), (1, 10), (1, 11), (1, 12), (1, 13), (1, 14), (1, 15), (1, 16), (1, 17), (2, 18), (0, 19), (0, 20)] .nil) (by kernel_rfl) (by kernel_rfl) (by kernel_rfl) (by kernel_rfl) (fun _ _ d _ _ h => by cases d <;> exact h) ⟨c1, d0, d1⟩ ?_
      (refine inN_read (v := ?_) rfl (Or.inl ⟨by rfl, ?_⟩) ?_; rotate_left 1; (focus (intro W hSW; clear hSW; go_simp; (try (with_reducible rfl)))); (try simp only [Act.put, List.getElem_toArray, List.getElem_cons_zero, List.getElem_cons_succ, List.setIfInBounds_toArray, List.set_cons_zero, List.set_cons_succ]))
      (refine inN_read (v := ?_) rfl (Or.inl ⟨by rfl, ?_⟩) ?_; rotate_left 1; (focus (intro W hSW; clear hSW; go_simp; (try (with_reducible rfl)))); (try simp only [Act.put, List.getElem_toArray, List.getElem_cons_zero, List.getElem_cons_succ, List.setIfInBounds_toArray, List.set_cons_zero, List.set_cons_succ]))
      (refine inN_read (v := ?_) rfl (Or.inl ⟨by rfl, ?_⟩) ?_; rotate_left 1; (focus (intro W hSW; clear hSW; go_simp; (try (with_reducible rfl)))); (try simp only [Act.put, List.getElem_toArray, List.getElem_cons_zero, List.getElem_cons_succ, List.setIfInBounds_toArray, List.set_cons_zero, List.set_cons_succ]))
      (refine inN_read (v := ?_) rfl (Or.inl ⟨by rfl, ?_⟩) ?_; rotate_left 1; (focus (intro W hSW; clear hSW; go_simp; (try (with_reducible rfl)))); (try simp only [Act.put, List.getElem_toArray, List.getElem_cons_zero, List.getElem_cons_succ, List.setIfInBounds_toArray, List.set_cons_zero, List.set_cons_succ]))
      (refine inN_read rfl (yl_cell tcI rfl rfl rfl (fun W hS => hS.1)) ?_; (try simp only [Act.put, List.getElem_toArray, List.getElem_cons_zero, List.getElem_cons_succ, List.setIfInBounds_toArray, List.set_cons_zero, List.set_cons_succ]))
      (refine inN_read (v := ?_) rfl (Or.inl ⟨by rfl, ?_⟩) ?_; rotate_left 1; (focus (intro W hSW; clear hSW; go_simp; (try (with_reducible rfl)))); (try simp only [Act.put, List.getElem_toArray, List.getElem_cons_zero, List.getElem_cons_succ, List.setIfInBounds_toArray, List.set_cons_zero, List.set_cons_succ]))
      (refine inN_read (v := ?_) rfl (Or.inl ⟨by rfl, ?_⟩) ?_; rotate_left 1; (focus (intro W hSW; clear hSW; go_simp; (try (with_reducible rfl)))); (try simp only [Act.put, List.getElem_toArray, List.getElem_cons_zero, List.getElem_cons_succ, List.setIfInBounds_toArray, List.set_cons_zero, List.set_cons_succ]))
      refine inN_read rfl (Or.inr ⟨by rfl, rfl⟩) ?_; (try simp only [Act.put, List.getElem_toArray, List.getElem_cons_zero, List.getElem_cons_succ, List.setIfInBounds_toArray, List.set_cons_zero, List.set_cons_succ])
      refine inN_read rfl (Or.inr ⟨by rfl, rfl⟩) ?_; (try simp only [Act.put, List.getElem_toArray, List.getElem_cons_zero, List.getElem_cons_succ, List.setIfInBounds_toArray, List.set_cons_zero, List.set_cons_succ])
      refine inN_read rfl (Or.inr ⟨by rfl, rfl⟩) ?_; (try simp only [Act.put, List.getElem_toArray, List.getElem_cons_zero, List.getElem_cons_succ, List.setIfInBounds_toArray, List.set_cons_zero, List.set_cons_succ])
      refine inN_read rfl (Or.inr ⟨by rfl, rfl⟩) ?_; (try simp only [Act.put, List.getElem_toArray, List.getElem_cons_zero, List.getElem_cons_succ, List.setIfInBounds_toArray, List.set_cons_zero, List.set_cons_succ])
      refine inN_read rfl (Or.inr ⟨by rfl, rfl⟩) ?_; (try simp only [Act.put, List.getElem_toArray, List.getElem_cons_zero, List.getElem_cons_succ, List.setIfInBounds_toArray, List.set_cons_zero, List.set_cons_succ])
      refine inN_read rfl (Or.inr ⟨by rfl, rfl⟩) ?_; (try simp only [Act.put, List.getElem_toArray, List.getElem_cons_zero, List.getElem_cons_succ, List.setIfInBounds_toArray, List.set_cons_zero, List.set_cons_succ])
      refine inN_read rfl (Or.inr ⟨by rfl, rfl⟩) ?_; (try simp only [Act.put, List.getElem_toArray, List.getElem_cons_zero, List.getElem_cons_succ, List.setIfInBounds_toArray, List.set_cons_zero, List.set_cons_succ])
      refine inN_read rfl (Or.inr ⟨by rfl, rfl⟩) ?_; (try simp only [Act.put, List.getElem_toArray, List.getElem_cons_zero, List.getElem_cons_succ, List.setIfInBounds_toArray, List.set_cons_zero, List.set_cons_succ])
      refine inN_read rfl (Or.inr ⟨by rfl, rfl⟩) ?_; (try simp only [Act.put, List.getElem_toArray, List.getElem_cons_zero, List.getElem_cons_succ, List.setIfInBounds_toArray, List.set_cons_zero, List.set_cons_succ])
      refine inN_read rfl (Or.inr ⟨by rfl, rfl⟩) ?_; (try simp only [Act.put, List.getElem_toArray, List.getElem_cons_zero, List.getElem_cons_succ, List.setIfInBounds_toArray, List.set_cons_zero, List.set_cons_succ])
      refine inN_read rfl (Or.inr ⟨by rfl, rfl⟩) ?_; (try simp only [Act.put, List.getElem_toArray, List.getElem_cons_zero, List.getElem_cons_succ, List.setIfInBounds_toArray, List.set_cons_zero, List.set_cons_succ])
      refine inN_skip rfl rfl rfl ?_; (try simp only [Act.put, List.getElem_toArray, List.getElem_cons_zero, List.getElem_cons_succ, List.setIfInBounds_toArray, List.set_cons_zero, List.set_cons_succ])
      (refine inN_pure (v := ?_) rfl (Or.inl ⟨by rfl, ?_⟩) ?_; rotate_left 1; (focus (intro W hSW; clear hSW; go_simp; (try (with_reducible rfl)))); (try simp only [Act.put, List.getElem_toArray, List.getElem_cons_zero, List.getElem_cons_succ, List.setIfInBounds_toArray, List.set_cons_zero, List.set_cons_succ]))
      (refine inN_pure (v := ?_) rfl (Or.inl ⟨by rfl, ?_⟩) ?_; rotate_left 1; (focus (intro W hSW; clear hSW; go_simp; (try (with_reducible rfl)))); (try simp only [Act.put, List.getElem_toArray, List.getElem_cons_zero, List.getElem_cons_succ, List.setIfInBounds_toArray, List.set_cons_zero, List.set_cons_succ]))
      refine inN_end ?_
      go_wp2
      go_ret
      refine BQ.of HD.out ?_
      have hQ := HQ.out
      clear HQ HTW HG HCP HPe HPf c0 c1 d0 d1 HTD HD
      rw [hQ]
      clear hQ
      simp_all
  · go_enter Try.func89, Try.ntmps89
    go_wp2
    all_goals (go_ret; refine BQ.of (grown_refl _ _) ?_; have hQ := HQ.out; clear HQ HTW HG HCP HPe HPf c0 c1 d0 d1; rw [hQ]; clear hQ; simp_all)
end Go.Proofs.Ythmldhppmpbadaa.Ty
namespace Go.Proofs.Ythmldhppmpbadaa.Ty
open Go.RowKit hiding Hid
open Go.Maps Go.Proofs.Ythmldhppmpbadaa.Tx Go.Proofs.Ythmldhppmpbadaa.Lx Go.Proofs.Ythmldhppmpbadaa.Tr Go.Proofs.Ythmldhppmpbadaa.Mp
set_option linter.unusedVariables false
set_option linter.unusedSimpArgs false
set_option maxRecDepth 100000

theorem bare_base {x : Tt} (h : bareB x = true) : x.ba = 0 := by
  unfold bareB at h
  simp only [Bool.and_eq_true, beq_iff_eq, List.isEmpty_iff] at h
  simp_all
theorem base_zero {T : List Tt} (G : GoodP T) {i : Nat} {x : Tt} (hx : T[i]? = some x) (hf : x.fm ≠ 9) : x.ba = 0 := by
  by_cases hi : i < 7
  · have h := G.loc.bas i x hi hx
    unfold basicB at h
    simp only [Bool.and_eq_true] at h
    exact bare_base h.2.2.2
  · have h := (G.loc.oth i x (by omega) hx).2
    unfold partsB at h
    split at h
    · simp only [Bool.and_eq_true] at h
      have := bare_base h.2
      exact this
    split at h
    · simp only [Bool.and_eq_true] at h
      have := bare_base h.2
      exact this
    split at h
    · simp only [Bool.and_eq_true] at h
      have := bare_base h.2
      exact this
    split at h
    · simp only [Bool.and_eq_true] at h
      have := bare_base h.2
      exact this
    · cases h
theorem lv_all {T : List Tt} (G : GoodP T) {i : Nat} (hi : i < T.length) : ∃ n, n ≤ 4 ∧ Lv T n i := by
  have hx := List.getElem?_eq_getElem hi
  by_cases hf : T[i].fm = 9
  · obtain ⟨_, n, h1, h2, _⟩ := G.rcd i _ hx hf
    exact ⟨n, h1, h2⟩
  · exact ⟨0, by omega, _, hx, base_zero G hx hf⟩
def topA (T : List Tt) (a : Int) : Int := if fmA T a = 10 then elA T a else a
set_option maxHeartbeats 4000000 in
theorem level_at {w : World} {o : Option Addr} {T : List Tt} (cp : Nat) (H : Tab w o T) (G : GoodP T) {a : Nat} (ha : a < T.length) : ∃ n : Nat, n ≤ 4 ∧ Lv T n (topA T a).toNat ∧ Calls Try.prog 83 #[.slice o T.length cp, .int .i64 a] w fun e w' => e = .returned (.int .i64 n) ∧ w.grownBy w' none := by
  obtain ⟨ad, la, rfl, _⟩ := H.at (List.getElem?_eq_getElem ha)
  obtain ⟨B, hB⟩ : ∃ B, ad.add (a * 10) = B := ⟨_, rfl⟩
  obtain ⟨q, hq, hql⟩ := el_plc G ha
  have c0 := form_cell H ha hB
  have d0 := elem_cell H ha hB
  have bl := block_lt_of_cell c0
  have ja : (a : Int) < T.length := by omega
  rw [hq] at d0
  unfold topA
  rw [hq]
  by_cases h10 : fmA T (a : Int) = 10
  · rw [if_pos h10]
    rw [h10] at c0
    obtain ⟨n, hn, hl⟩ := lv_all G hql
    refine ⟨n, hn, hl, ?_⟩
    have HC := hide (count_at cp H hl (by omega))
    clear H G h10 hl hq
    go_enter Try.func83, Try.ntmps83
    go_wp2_with (go_at_call 99; refine HC.out.mono ?_; rintro en w2 ⟨rfl, hw⟩; have hw := hw.symm; subst hw)
    go_ret
    exact ⟨rfl, grown_refl _ _⟩
  · rw [if_neg h10]
    obtain ⟨x, hx⟩ : ∃ x, fmA T (a : Int) = x := ⟨_, rfl⟩
    rw [hx] at h10 c0
    obtain ⟨n, hn, hl⟩ := lv_all G ha
    refine ⟨n, hn, hl, ?_⟩
    have HC := hide (count_at cp H hl (by omega))
    clear H G hl hq hx
    go_enter Try.func83, Try.ntmps83
    go_wp2_with (go_at_call 99; refine HC.out.mono ?_; rintro en w2 ⟨rfl, hw⟩; have hw := hw.symm; subst hw)
    go_ret
    exact ⟨rfl, grown_refl _ _⟩
/- What may be assigned. -/
def AsgA (T : List Tt) (a b : Int) : Prop := variF (fmA T b) = true ∧ (SameP T a b ∨ ExA T a b ∨ OthA T a b)
set_option maxHeartbeats 4000000 in
theorem assign_at {w : World} {o : Option Addr} {T : List Tt} (cp : Nat) (H : Tab w o T) (G : GoodP T) (hcp : T.length ≤ cp) {a b : Nat} (ha : a < T.length) (hb : b < T.length) : Calls Try.prog 58 #[.slice o T.length cp, .int .i64 a, .int .i64 b] w (BQ (AsgA T a b) w) := by
  obtain ⟨ad, la, rfl, _⟩ := H.at (List.getElem?_eq_getElem ha)
  have HTW := hide H
  have HG := hide G
  have HCP := hide hcp
  have HPa := hide (plc_at ha)
  have HPb := hide (plc_at hb)
  obtain ⟨A, hA⟩ : ∃ A, AsgA T a b = A := ⟨_, rfl⟩
  have HA := hide hA
  rw [hA]
  clear H G hcp hA
  cases hv : variF (fmA T (b : Int)) with
  | false =>
    go_enter Try.func58, Try.ntmps58
    go_wp2_with (go_at_call 88; refine (variable_at cp HTW.out hb).mono ?_; rw [hv]; rintro e w2 ⟨rfl, hw⟩; have hw := hw.symm; subst hw)
    go_ret
    refine BQ.of (grown_refl _ _) ⟨(fun h => by cases h), fun h => ?_⟩
    rw [← HA.out] at h
    have := h.1
    rw [hv] at this
    exact this
  | true =>
    have HV := hide hv
    by_cases hs : SameP T (a : Int) (b : Int)
    · go_enter Try.func58, Try.ntmps58
      go_wp2_with (first | (go_at_call 88; refine (variable_at cp HTW.out hb).mono ?_; rw [hv]; rintro e w2 ⟨rfl, hw⟩; have hw := hw.symm; subst hw) | (go_at_call 56; refine (same_at cp HTW.out HG.out HCP.out _ _ HPa.out HPb.out).mono ?_; rintro e w2 ⟨r, rfl, hg, hr⟩; obtain rfl : r = true := by { cases r <;> simp_all }; replace HTW := hide (HTW.out.kept hg); have HW1 := hide hg; clear hg hr))
      go_ret
      exact BQ.of HW1.out ⟨fun _ => by rw [← HA.out]; exact ⟨HV.out, .inl hs⟩, fun _ => rfl⟩
    · by_cases hx : ExA T (a : Int) (b : Int)
      · go_enter Try.func58, Try.ntmps58
        go_wp2_with (first | (go_at_call 88; refine (variable_at cp HTW.out hb).mono ?_; rw [hv]; rintro e w2 ⟨rfl, hw⟩; have hw := hw.symm; subst hw) | (go_at_call 56; refine (same_at cp HTW.out HG.out HCP.out _ _ HPa.out HPb.out).mono ?_; rintro e w2 ⟨r, rfl, hg, hr⟩; obtain rfl : r = false := by { cases r <;> simp_all }; replace HTW := hide (HTW.out.kept hg); have HW1 := hide hg; clear hg hr) | (go_at_call 57; refine (extends_at cp HTW.out HG.out HCP.out ha hb).mono ?_; rintro e w3 ⟨r, rfl, hg, hr⟩; obtain rfl : r = true := by { cases r <;> simp_all }; replace HTW := hide (HTW.out.kept hg); have HW2 := hide (HW1.out.trans hg); clear hg hr))
        go_ret
        exact BQ.of HW2.out ⟨fun _ => by rw [← HA.out]; exact ⟨HV.out, .inr (.inl hx)⟩, fun _ => rfl⟩
      · go_enter Try.func58, Try.ntmps58
        go_wp2_with (first | (go_at_call 88; refine (variable_at cp HTW.out hb).mono ?_; rw [hv]; rintro e w2 ⟨rfl, hw⟩; have hw := hw.symm; subst hw) | (go_at_call 56; refine (same_at cp HTW.out HG.out HCP.out _ _ HPa.out HPb.out).mono ?_; rintro e w2 ⟨r, rfl, hg, hr⟩; obtain rfl : r = false := by { cases r <;> simp_all }; replace HTW := hide (HTW.out.kept hg); have HW1 := hide hg; clear hg hr) | (go_at_call 57; refine (extends_at cp HTW.out HG.out HCP.out ha hb).mono ?_; rintro e w3 ⟨r, rfl, hg, hr⟩; obtain rfl : r = false := by { cases r <;> simp_all }; replace HTW := hide (HTW.out.kept hg); have HW2 := hide (HW1.out.trans hg); clear hg hr) | (go_at_call 89; refine (other_at cp HTW.out HG.out HCP.out ha hb).mono ?_; rintro e w4 ⟨r, rfl, hg, hr⟩; have HR := hide hr; have HW3 := hide (HW2.out.trans hg); clear hg hr))
        go_ret
        refine BQ.of HW3.out ?_
        rw [← HA.out, HR.out]
        exact ⟨fun h => ⟨HV.out, .inr (.inr h)⟩, fun h => h.2.elim (fun h => absurd h hs) (fun h => h.elim (fun h => absurd h hx) id)⟩
end Go.Proofs.Ythmldhppmpbadaa.Ty
namespace Go.Proofs.Ythmldhppmpbadaa.Ty
open Go.RowKit hiding Hid
open Go.Maps Go.Proofs.Ythmldhppmpbadaa.Tx Go.Proofs.Ythmldhppmpbadaa.Lx Go.Proofs.Ythmldhppmpbadaa.Tr Go.Proofs.Ythmldhppmpbadaa.Mp
set_option linter.unusedVariables false
set_option linter.unusedSimpArgs false
set_option maxRecDepth 100000

theorem cls_2 {w : World} {g : Nat} {x y : Value} (h0 : w.cell? ⟨g, 0, none⟩ = some x) (h1 : w.cell? ⟨g, 1, none⟩ = some y) : Cls w (some ⟨g, 0, none⟩) [x, y] := fun j u hu => by
  match j with
  | 0 => simp at hu; subst hu; exact ⟨_, rfl, h0⟩
  | 1 => simp at hu; subst hu; exact ⟨_, rfl, h1⟩
  | j + 2 => simp at hu
theorem cls_1 {w : World} {g : Nat} {x : Value} (h0 : w.cell? ⟨g, 0, none⟩ = some x) : Cls w (some ⟨g, 0, none⟩) [x] := fun j u hu => by
  match j with
  | 0 => simp at hu; subst hu; exact ⟨_, rfl, h0⟩
  | j + 1 => simp at hu
theorem inT_nat {n : Nat} {a : Int} (h : inT n a = true) : ∃ i : Nat, a = i ∧ i < n := by
  unfold inT at h
  simp only [Bool.and_eq_true, decide_eq_true_eq] at h
  exact ⟨a.toNat, by omega, by omega⟩
theorem inT_of {n i : Nat} (h : i < n) : inT n (i : Int) = true := by
  unfold inT
  simp only [Bool.and_eq_true, decide_eq_true_eq]
  omega
/- Both places lie in a good table. -/
def Snd (T : List Tt) (l : List Int) : Prop := (∀ a ∈ l, inT T.length a = true) ∧ GoodP T
set_option maxHeartbeats 4000000 in
theorem psame_at {w : World} {o : Option Addr} {T : List Tt} (cp : Nat) (H : Tab w o T) (hcp : T.length ≤ cp) (a b : Int) : Calls Try.prog 27 #[.slice o T.length cp, .int .i64 a, .int .i64 b] w (BQ (Snd T [a, b] ∧ SameP T a b) w) := by
  have HTW := hide H
  have HCP := hide hcp
  have HC := hide (Cf.of (Cx.start w (fun _ => False)))
  obtain ⟨A, hA⟩ : ∃ A, (Snd T [a, b] ∧ SameP T a b) = A := ⟨_, rfl⟩
  have HA := hide hA
  rw [hA]
  clear H hcp hA
  by_cases hs : Snd T [a, b]
  · have HG := hide hs.2
    obtain ⟨i, rfl, hi⟩ := inT_nat (hs.1 a (by simp))
    obtain ⟨j, rfl, hj⟩ := inT_nat (hs.1 b (by simp))
    have HS := hide hs
    clear hs
    go_enter Try.func27, Try.ntmps27
    go_wp2_with (first | (refine at_bs 69 rfl ?_; go_loud (refine wl_op rfl (fun K' hK => ?_); refine cfo_bl 69 2 _ rfl 3 [.int .i64 (i : Int), .int .i64 (j : Int)] HC.out (by kernel_rfl) ?_; intro g w' hn hg hc; clear hg hn; (replace HC := hide hc; clear hc); refine hK _ _ ?_; clear hK K')) | (go_at_call 55; go_loud (refine (sound_at (l := [(i : Int), (j : Int)]) cp 2 (HTW.out.kept HC.out.cx.grown) HCP.out (cls_2 (cfcell HC.out (by repeat (first | exact List.Mem.head _ | apply List.Mem.tail)) (by repeat (first | exact GetS.cons _ (GetS.nil _) | apply GetS.skip))) (cfcell HC.out (by repeat (first | exact List.Mem.head _ | apply List.Mem.tail)) (by repeat (first | exact GetS.cons _ (GetS.nil _) | apply GetS.skip)))) (by simp)).mono ?_; rintro e w2 ⟨d, rfl, hg, hd⟩; obtain rfl : d = true := by { have hs := HS.out; unfold Snd at hs; cases d <;> simp_all }; replace HTW := hide (HTW.out.kept (HC.out.cx.grown.trans hg)); have HW1 := hide (HC.out.cx.grown.trans hg); clear hg hd HC)) | (go_at_call 56; refine (same_at cp HTW.out HG.out HCP.out _ _ (plc_at hi) (plc_at hj)).mono ?_; rintro e w3 ⟨r, rfl, hg, hr⟩; have HR := hide hr; have HW2 := hide (HW1.out.trans hg); clear hg hr))
    go_ret
    refine BQ.of HW2.out ?_
    rw [← HA.out, HR.out]
    exact ⟨fun h => ⟨HS.out, h⟩, fun h => h.2⟩
  · have HS := hide hs
    clear hs
    go_enter Try.func27, Try.ntmps27
    go_wp2_with (first | (refine at_bs 69 rfl ?_; go_loud (refine wl_op rfl (fun K' hK => ?_); refine cfo_bl 69 2 _ rfl 3 [.int .i64 a, .int .i64 b] HC.out (by kernel_rfl) ?_; intro g w' hn hg hc; clear hg hn; (replace HC := hide hc; clear hc); refine hK _ _ ?_; clear hK K')) | (go_at_call 55; go_loud (refine (sound_at (l := [a, b]) cp 2 (HTW.out.kept HC.out.cx.grown) HCP.out (cls_2 (cfcell HC.out (by repeat (first | exact List.Mem.head _ | apply List.Mem.tail)) (by repeat (first | exact GetS.cons _ (GetS.nil _) | apply GetS.skip))) (cfcell HC.out (by repeat (first | exact List.Mem.head _ | apply List.Mem.tail)) (by repeat (first | exact GetS.cons _ (GetS.nil _) | apply GetS.skip)))) (by simp)).mono ?_; rintro e w2 ⟨d, rfl, hg, hd⟩; obtain rfl : d = false := by { have hs := HS.out; unfold Snd at hs; cases d <;> simp_all }; replace HTW := hide (HTW.out.kept (HC.out.cx.grown.trans hg)); have HW1 := hide (HC.out.cx.grown.trans hg); clear hg hd HC)))
    go_ret
    refine BQ.of HW1.out ⟨(fun h => by cases h), fun h => ?_⟩
    rw [← HA.out] at h
    exact absurd h.1 HS.out
set_option maxHeartbeats 4000000 in
theorem pext_at {w : World} {o : Option Addr} {T : List Tt} (cp : Nat) (H : Tab w o T) (hcp : T.length ≤ cp) (a b : Int) : Calls Try.prog 28 #[.slice o T.length cp, .int .i64 a, .int .i64 b] w (BQ (Snd T [a, b] ∧ ExA T a b) w) := by
  have HTW := hide H
  have HCP := hide hcp
  have HC := hide (Cf.of (Cx.start w (fun _ => False)))
  obtain ⟨A, hA⟩ : ∃ A, (Snd T [a, b] ∧ ExA T a b) = A := ⟨_, rfl⟩
  have HA := hide hA
  rw [hA]
  clear H hcp hA
  by_cases hs : Snd T [a, b]
  · have HG := hide hs.2
    obtain ⟨i, rfl, hi⟩ := inT_nat (hs.1 a (by simp))
    obtain ⟨j, rfl, hj⟩ := inT_nat (hs.1 b (by simp))
    have HS := hide hs
    clear hs
    go_enter Try.func28, Try.ntmps28
    go_wp2_with (first | (refine at_bs 69 rfl ?_; go_loud (refine wl_op rfl (fun K' hK => ?_); refine cfo_bl 69 2 _ rfl 3 [.int .i64 (i : Int), .int .i64 (j : Int)] HC.out (by kernel_rfl) ?_; intro g w' hn hg hc; clear hg hn; (replace HC := hide hc; clear hc); refine hK _ _ ?_; clear hK K')) | (go_at_call 55; go_loud (refine (sound_at (l := [(i : Int), (j : Int)]) cp 2 (HTW.out.kept HC.out.cx.grown) HCP.out (cls_2 (cfcell HC.out (by repeat (first | exact List.Mem.head _ | apply List.Mem.tail)) (by repeat (first | exact GetS.cons _ (GetS.nil _) | apply GetS.skip))) (cfcell HC.out (by repeat (first | exact List.Mem.head _ | apply List.Mem.tail)) (by repeat (first | exact GetS.cons _ (GetS.nil _) | apply GetS.skip)))) (by simp)).mono ?_; rintro e w2 ⟨d, rfl, hg, hd⟩; obtain rfl : d = true := by { have hs := HS.out; unfold Snd at hs; cases d <;> simp_all }; replace HTW := hide (HTW.out.kept (HC.out.cx.grown.trans hg)); have HW1 := hide (HC.out.cx.grown.trans hg); clear hg hd HC)) | (go_at_call 57; refine (extends_at cp HTW.out HG.out HCP.out hi hj).mono ?_; rintro e w3 ⟨r, rfl, hg, hr⟩; have HR := hide hr; have HW2 := hide (HW1.out.trans hg); clear hg hr))
    go_ret
    refine BQ.of HW2.out ?_
    rw [← HA.out, HR.out]
    exact ⟨fun h => ⟨HS.out, h⟩, fun h => h.2⟩
  · have HS := hide hs
    clear hs
    go_enter Try.func28, Try.ntmps28
    go_wp2_with (first | (refine at_bs 69 rfl ?_; go_loud (refine wl_op rfl (fun K' hK => ?_); refine cfo_bl 69 2 _ rfl 3 [.int .i64 a, .int .i64 b] HC.out (by kernel_rfl) ?_; intro g w' hn hg hc; clear hg hn; (replace HC := hide hc; clear hc); refine hK _ _ ?_; clear hK K')) | (go_at_call 55; go_loud (refine (sound_at (l := [a, b]) cp 2 (HTW.out.kept HC.out.cx.grown) HCP.out (cls_2 (cfcell HC.out (by repeat (first | exact List.Mem.head _ | apply List.Mem.tail)) (by repeat (first | exact GetS.cons _ (GetS.nil _) | apply GetS.skip))) (cfcell HC.out (by repeat (first | exact List.Mem.head _ | apply List.Mem.tail)) (by repeat (first | exact GetS.cons _ (GetS.nil _) | apply GetS.skip)))) (by simp)).mono ?_; rintro e w2 ⟨d, rfl, hg, hd⟩; obtain rfl : d = false := by { have hs := HS.out; unfold Snd at hs; cases d <;> simp_all }; replace HTW := hide (HTW.out.kept (HC.out.cx.grown.trans hg)); have HW1 := hide (HC.out.cx.grown.trans hg); clear hg hd HC)))
    go_ret
    refine BQ.of HW1.out ⟨(fun h => by cases h), fun h => ?_⟩
    rw [← HA.out] at h
    exact absurd h.1 HS.out
set_option maxHeartbeats 4000000 in
theorem pasg_at {w : World} {o : Option Addr} {T : List Tt} (cp : Nat) (H : Tab w o T) (hcp : T.length ≤ cp) (a b : Int) : Calls Try.prog 29 #[.slice o T.length cp, .int .i64 a, .int .i64 b] w (BQ (Snd T [a, b] ∧ AsgA T a b) w) := by
  have HTW := hide H
  have HCP := hide hcp
  have HC := hide (Cf.of (Cx.start w (fun _ => False)))
  obtain ⟨A, hA⟩ : ∃ A, (Snd T [a, b] ∧ AsgA T a b) = A := ⟨_, rfl⟩
  have HA := hide hA
  rw [hA]
  clear H hcp hA
  by_cases hs : Snd T [a, b]
  · have HG := hide hs.2
    obtain ⟨i, rfl, hi⟩ := inT_nat (hs.1 a (by simp))
    obtain ⟨j, rfl, hj⟩ := inT_nat (hs.1 b (by simp))
    have HS := hide hs
    clear hs
    go_enter Try.func29, Try.ntmps29
    go_wp2_with (first | (refine at_bs 69 rfl ?_; go_loud (refine wl_op rfl (fun K' hK => ?_); refine cfo_bl 69 2 _ rfl 3 [.int .i64 (i : Int), .int .i64 (j : Int)] HC.out (by kernel_rfl) ?_; intro g w' hn hg hc; clear hg hn; (replace HC := hide hc; clear hc); refine hK _ _ ?_; clear hK K')) | (go_at_call 55; go_loud (refine (sound_at (l := [(i : Int), (j : Int)]) cp 2 (HTW.out.kept HC.out.cx.grown) HCP.out (cls_2 (cfcell HC.out (by repeat (first | exact List.Mem.head _ | apply List.Mem.tail)) (by repeat (first | exact GetS.cons _ (GetS.nil _) | apply GetS.skip))) (cfcell HC.out (by repeat (first | exact List.Mem.head _ | apply List.Mem.tail)) (by repeat (first | exact GetS.cons _ (GetS.nil _) | apply GetS.skip)))) (by simp)).mono ?_; rintro e w2 ⟨d, rfl, hg, hd⟩; obtain rfl : d = true := by { have hs := HS.out; unfold Snd at hs; cases d <;> simp_all }; replace HTW := hide (HTW.out.kept (HC.out.cx.grown.trans hg)); have HW1 := hide (HC.out.cx.grown.trans hg); clear hg hd HC)) | (go_at_call 58; refine (assign_at cp HTW.out HG.out HCP.out hi hj).mono ?_; rintro e w3 ⟨r, rfl, hg, hr⟩; have HR := hide hr; have HW2 := hide (HW1.out.trans hg); clear hg hr))
    go_ret
    refine BQ.of HW2.out ?_
    rw [← HA.out, HR.out]
    exact ⟨fun h => ⟨HS.out, h⟩, fun h => h.2⟩
  · have HS := hide hs
    clear hs
    go_enter Try.func29, Try.ntmps29
    go_wp2_with (first | (refine at_bs 69 rfl ?_; go_loud (refine wl_op rfl (fun K' hK => ?_); refine cfo_bl 69 2 _ rfl 3 [.int .i64 a, .int .i64 b] HC.out (by kernel_rfl) ?_; intro g w' hn hg hc; clear hg hn; (replace HC := hide hc; clear hc); refine hK _ _ ?_; clear hK K')) | (go_at_call 55; go_loud (refine (sound_at (l := [a, b]) cp 2 (HTW.out.kept HC.out.cx.grown) HCP.out (cls_2 (cfcell HC.out (by repeat (first | exact List.Mem.head _ | apply List.Mem.tail)) (by repeat (first | exact GetS.cons _ (GetS.nil _) | apply GetS.skip))) (cfcell HC.out (by repeat (first | exact List.Mem.head _ | apply List.Mem.tail)) (by repeat (first | exact GetS.cons _ (GetS.nil _) | apply GetS.skip)))) (by simp)).mono ?_; rintro e w2 ⟨d, rfl, hg, hd⟩; obtain rfl : d = false := by { have hs := HS.out; unfold Snd at hs; cases d <;> simp_all }; replace HTW := hide (HTW.out.kept (HC.out.cx.grown.trans hg)); have HW1 := hide (HC.out.cx.grown.trans hg); clear hg hd HC)))
    go_ret
    refine BQ.of HW1.out ⟨(fun h => by cases h), fun h => ?_⟩
    rw [← HA.out] at h
    exact absurd h.1 HS.out
set_option maxHeartbeats 4000000 in
theorem plevel_at {w : World} {o : Option Addr} {T : List Tt} (cp : Nat) (H : Tab w o T) (hcp : T.length ≤ cp) (a : Int) : ∃ n : Nat, (Snd T [a] → n ≤ 4 ∧ Lv T n (topA T a).toNat) ∧ (¬ Snd T [a] → n = 0) ∧ Calls Try.prog 54 #[.slice o T.length cp, .int .i64 a] w fun e w' => e = .returned (.int .i64 n) ∧ w.grownBy w' none := by
  have HTW := hide H
  have HCP := hide hcp
  have HC := hide (Cf.of (Cx.start w (fun _ => False)))
  by_cases hs : Snd T [a]
  · have HG := hide hs.2
    obtain ⟨i, rfl, hi⟩ := inT_nat (hs.1 a (by simp))
    have HS := hide hs
    obtain ⟨n, hn, hl, _⟩ := level_at cp H hs.2 hi
    refine ⟨n, fun _ => ⟨hn, hl⟩, fun h => absurd hs h, ?_⟩
    have HL := hide (⟨hn, hl⟩ : n ≤ 4 ∧ Lv T n (topA T i).toNat)
    clear hs H hcp hl hn
    go_enter Try.func54, Try.ntmps54
    go_wp2_with (first | (refine at_bs 69 rfl ?_; go_loud (refine wl_op rfl (fun K' hK => ?_); refine cfo_bl 69 1 _ rfl 3 [.int .i64 (i : Int)] HC.out (by kernel_rfl) ?_; intro g w' hn hg hc; clear hg hn; (replace HC := hide hc; clear hc); refine hK _ _ ?_; clear hK K')) | (go_at_call 55; go_loud (refine (sound_at (l := [(i : Int)]) cp 1 (HTW.out.kept HC.out.cx.grown) HCP.out (cls_1 (cfcell HC.out (by repeat (first | exact List.Mem.head _ | apply List.Mem.tail)) (by repeat (first | exact GetS.cons _ (GetS.nil _) | apply GetS.skip)))) (by simp)).mono ?_; rintro e w2 ⟨d, rfl, hg, hd⟩; obtain rfl : d = true := by { have hs := HS.out; unfold Snd at hs; cases d <;> simp_all }; replace HTW := hide (HTW.out.kept (HC.out.cx.grown.trans hg)); have HW1 := hide (HC.out.cx.grown.trans hg); clear hg hd HC)) | (go_at_call 83; obtain ⟨m, _, hm, hc⟩ := level_at cp HTW.out HG.out hi; obtain rfl : m = n := hm.one HL.out.2; clear hm; refine hc.mono ?_; clear hc; rintro e w3 ⟨rfl, hg⟩; have HW2 := hide (HW1.out.trans hg); clear hg))
    go_ret
    exact ⟨rfl, HW2.out⟩
  · refine ⟨0, fun h => absurd h hs, fun _ => rfl, ?_⟩
    have HS := hide hs
    clear hs H hcp
    go_enter Try.func54, Try.ntmps54
    go_wp2_with (first | (refine at_bs 69 rfl ?_; go_loud (refine wl_op rfl (fun K' hK => ?_); refine cfo_bl 69 1 _ rfl 3 [.int .i64 a] HC.out (by kernel_rfl) ?_; intro g w' hn hg hc; clear hg hn; (replace HC := hide hc; clear hc); refine hK _ _ ?_; clear hK K')) | (go_at_call 55; go_loud (refine (sound_at (l := [a]) cp 1 (HTW.out.kept HC.out.cx.grown) HCP.out (cls_1 (cfcell HC.out (by repeat (first | exact List.Mem.head _ | apply List.Mem.tail)) (by repeat (first | exact GetS.cons _ (GetS.nil _) | apply GetS.skip)))) (by simp)).mono ?_; rintro e w2 ⟨d, rfl, hg, hd⟩; obtain rfl : d = false := by { have hs := HS.out; unfold Snd at hs; cases d <;> simp_all }; replace HTW := hide (HTW.out.kept (HC.out.cx.grown.trans hg)); have HW1 := hide (HC.out.cx.grown.trans hg); clear hg hd HC)))
    go_ret
    exact ⟨rfl, HW1.out⟩
end Go.Proofs.Ythmldhppmpbadaa.Ty
namespace Go.Proofs.Ythmldhppmpbadaa.Ty
open Go.RowKit hiding Hid
open Go.Maps Go.Proofs.Ythmldhppmpbadaa.Tx Go.Proofs.Ythmldhppmpbadaa.Lx Go.Proofs.Ythmldhppmpbadaa.Tr Go.Proofs.Ythmldhppmpbadaa.Mp
set_option linter.unusedVariables false
set_option linter.unusedSimpArgs false
set_option maxRecDepth 100000

def BaW2 (w : World) (e : Ending) (w' : World) : Prop := ∃ o cp, e = .returned (.slice o 7 cp) ∧ w.grownBy w' none ∧ w'.ownsRow w.heap.size 48 10 (.slice o 7 cp) 7 (((List.range 7).map bL).flatMap laC)
set_option maxHeartbeats 8000000 in
theorem pbasic_own (w : World) : Calls Try.prog 53 #[] w (BaW2 w) := by
  have HC := hide (Cx.start w (fun _ => False))
  obtain ⟨ti, tz, t1, t2, t3, t4, t5⟩ := mk7
  have HM := hide (And.intro t1 (And.intro t2 (And.intro t3 (And.intro t4 t5))))
  clear t1 t2 t3 t4 t5
  go_enter Try.func53, Try.ntmps53
  go_wp2_with (refine at_mks 24 rfl ?_; refine wl_mks rfl 24 _ _ rfl Try.underlying24 HM.out.1 HM.out.2.1 7 rfl rfl (by rw [HM.out.2.2.2.1]; decide) (by rw [HM.out.2.2.1]; decide) (by decide) ((stp 0).flatMap laC) (by rw [HM.out.2.2.1]; exact HM.out.2.2.2.2) HC.out ?_; intro b w' hn hc; (replace HC := hide hc; clear hc))
  go_loopw [6] (fun iv W => ∃ (i : Nat), i ≤ 7 ∧ iv = .int .i64 i ∧ Hid (Cx w (fun _ => False) none [⟨b, (stp i).flatMap laC, 48⟩] [] [] W)) (fun iv _ => 7 - (intOf iv).toNat)
  case atStart => exact ⟨0, by omega, rfl, HC⟩
  case round =>
    clear HC
    obtain ⟨i, hi, rfl, HC⟩ := hrel
    by_cases hlt : i < 7
    · have q1 : (i : Int) < 7 := by omega
      have HL := hide hlt
      go_wp2_with (refine at_store 3 rfl ?_; refine wl_store (us := [.int .i64 (i : Int)]) (off := i * 10) rfl 3 _ _ rfl rfl rfl tcI.sz rfl HC.out (by repeat (first | exact List.Mem.head _ | apply List.Mem.tail)) (stp_put i HL.out) (by repeat (first | exact Upd.here _ _ _ | apply Upd.there)) ?_; intro w' hc; (replace HC := hide hc; clear hc))
      exact ⟨⟨i + 1, by omega, by go_num, HC⟩, by simp [intOf]; omega⟩
    · obtain rfl : i = 7 := by omega
      go_wp2
      go_ret
      have hl := HC.out.loc _ (.head _)
      refine ⟨_, _, rfl, HC.out.grown, ?_⟩
      rw [show (List.range 7).map bL = stp 7 from rfl]
      exact ⟨rfl, .inr ⟨b, 7, ((stp 7).flatMap laC).toArray, rfl, (HC.out.old _ (.head _)).resolve_right (by simp), hl, Nat.le_refl _, by unfold maxLen; decide, rfl, rfl⟩⟩
/- The laws' own table of eleven. -/
def y7 : Tt := ⟨9, [65], [82], 0, 0, 0, [], [], 0, 0⟩
def y8 : Tt := ⟨9, [65], [], 0, 0, 7, [], [], 0, 1⟩
def y9 : Tt := ⟨10, [], [], 0, 7, 0, [], [], 0, 0⟩
def y10 : Tt := ⟨10, [], [], 0, 8, 0, [], [], 0, 0⟩
def T11 : List Tt := basT ++ [y7, y8, y9, y10]
theorem T11_len : T11.length = 11 := rfl
theorem bT_fm' (i : Nat) : (bT i).fm = i := rfl
theorem bas_T' (i : Nat) : basicB i (bT i) = true := by unfold basicB bareB bT; simp
theorem bT_parts' {i : Nat} (h : i < 7) : partsI (bT i) = [] := by
  unfold partsI
  rw [if_neg (by rw [bT_fm']; omega), if_neg (by rw [bT_fm']; omega)]
theorem T11_at {i : Nat} {x : Tt} (h : T11[i]? = some x) : (i < 7 ∧ x = bT i) ∨ (i = 7 ∧ x = y7) ∨ (i = 8 ∧ x = y8) ∨ (i = 9 ∧ x = y9) ∨ (i = 10 ∧ x = y10) := by
  rcases i with _ | _ | _ | _ | _ | _ | _ | _ | _ | _ | _ | i
  · cases h; exact .inl ⟨by decide, rfl⟩
  · cases h; exact .inl ⟨by decide, rfl⟩
  · cases h; exact .inl ⟨by decide, rfl⟩
  · cases h; exact .inl ⟨by decide, rfl⟩
  · cases h; exact .inl ⟨by decide, rfl⟩
  · cases h; exact .inl ⟨by decide, rfl⟩
  · cases h; exact .inl ⟨by decide, rfl⟩
  · cases h; exact .inr (.inl ⟨rfl, rfl⟩)
  · cases h; exact .inr (.inr (.inl ⟨rfl, rfl⟩))
  · cases h; exact .inr (.inr (.inr (.inl ⟨rfl, rfl⟩)))
  · cases h; exact .inr (.inr (.inr (.inr ⟨rfl, rfl⟩)))
  · have := (List.getElem?_eq_some_iff.1 h).1
    rw [T11_len] at this
    omega
theorem good11 : GoodP T11 := by
  refine ⟨⟨by rw [T11_len]; decide, by rw [T11_len]; decide, fun i x hi hx => ?_, fun i x hi hx => ?_⟩, ⟨fun i => if i = 7 then 1 else if i = 8 then 2 else 0, fun i x hx j hj => ?_⟩, fun i x hx hf => ?_⟩
  · rcases T11_at hx with ⟨_, rfl⟩ | ⟨h, rfl⟩ | ⟨h, rfl⟩ | ⟨h, rfl⟩ | ⟨h, rfl⟩
    · exact bas_T' i
    all_goals omega
  · rcases T11_at hx with ⟨h, rfl⟩ | ⟨h, rfl⟩ | ⟨h, rfl⟩ | ⟨h, rfl⟩ | ⟨h, rfl⟩
    · omega
    all_goals exact ⟨by decide, by decide⟩
  · rcases T11_at hx with ⟨h, rfl⟩ | ⟨h, rfl⟩ | ⟨h, rfl⟩ | ⟨h, rfl⟩ | ⟨h, rfl⟩
    · rw [bT_parts' h] at hj; cases hj
    · subst h
      rw [show partsI y7 = [0] from rfl, List.mem_singleton] at hj
      subst hj
      decide
    · subst h
      rw [show partsI y8 = [7] from rfl, List.mem_singleton] at hj
      subst hj
      decide
    · rw [show partsI y9 = [] from rfl] at hj; cases hj
    · rw [show partsI y10 = [] from rfl] at hj; cases hj
  · rcases T11_at hx with ⟨h, rfl⟩ | ⟨h, rfl⟩ | ⟨h, rfl⟩ | ⟨h, rfl⟩ | ⟨h, rfl⟩
    · rw [bT_fm'] at hf; omega
    · subst h
      refine ⟨fun k y hk hy hy9 _ _ => ?_, 0, by decide, ⟨y7, rfl, rfl⟩, by decide⟩
      rcases T11_at hy with ⟨h, rfl⟩ | ⟨h, rfl⟩ | ⟨h, rfl⟩ | ⟨h, rfl⟩ | ⟨h, rfl⟩
      · rw [bT_fm'] at hy9; omega
      all_goals omega
    · subst h
      refine ⟨fun k y hk hy hy9 _ hd => ?_, 1, by decide, ⟨y8, rfl, by decide, by decide, ⟨y7, rfl, rfl⟩⟩, by decide⟩
      rcases T11_at hy with ⟨h, rfl⟩ | ⟨h, rfl⟩ | ⟨h, rfl⟩ | ⟨h, rfl⟩ | ⟨h, rfl⟩
      · rw [bT_fm'] at hy9; omega
      · cases hd
      all_goals omega
    · cases hf
    · cases hf
theorem snd11 {a b : Int} (ha : inT 11 a = true) (hb : inT 11 b = true) : Snd T11 [a, b] := ⟨fun c hc => by
  simp only [List.mem_cons, List.not_mem_nil, or_false] at hc
  rcases hc with rfl | rfl
  · exact ha
  · exact hb, good11⟩
theorem ex11 : ExA T11 10 9 := .inl ⟨by decide, by decide, by decide, by decide, 1, by decide⟩
theorem itb7 : ∀ k, itb T11 k 7 ≠ 8
  | 0 => by decide
  | k + 1 => by
    show itb T11 k 0 ≠ 8
    rw [itb_zero good11]
    decide
theorem nex11 : ¬ ExA T11 9 10 := fun h => by
  rcases h with ⟨_, _, _, _, k, hk⟩ | ⟨h, _⟩
  · exact itb7 k hk
  · revert h; decide
theorem asg11 : AsgA T11 5 9 := ⟨by decide, .inr (.inr (.inl ⟨by decide, .inl (by decide)⟩))⟩
theorem lv11 : Lv T11 1 8 := ⟨y8, rfl, by decide, by decide, ⟨y7, rfl, rfl⟩⟩
end Go.Proofs.Ythmldhppmpbadaa.Ty
namespace Go.Proofs.Ythmldhppmpbadaa.Ty
open Go.RowKit hiding Hid
open Go.Maps Go.Proofs.Ythmldhppmpbadaa.Tx Go.Proofs.Ythmldhppmpbadaa.Lx Go.Proofs.Ythmldhppmpbadaa.Tr Go.Proofs.Ythmldhppmpbadaa.Mp
set_option linter.unusedVariables false
set_option linter.unusedSimpArgs false
set_option maxRecDepth 100000

theorem good11_at {w : World} {o : Option Addr} (cp : Nat) (H : Tab w o T11) (hcp : 11 ≤ cp) : Calls Try.prog 30 #[.slice o 11 cp] w (SzO w (.bool true)) :=
  (good_at cp H hcp).mono fun e w' ⟨d, he, hg, hd⟩ => by
    obtain rfl : d = true := hd.2 good11
    exact ⟨he, hg⟩
theorem ext11_at {w : World} {o : Option Addr} (cp : Nat) (H : Tab w o T11) (hcp : 11 ≤ cp) : Calls Try.prog 28 #[.slice o 11 cp, .int .i64 10, .int .i64 9] w (SzO w (.bool true)) :=
  (pext_at cp H hcp 10 9).mono fun e w' ⟨d, he, hg, hd⟩ => by
    obtain rfl : d = true := hd.2 ⟨snd11 (by decide) (by decide), ex11⟩
    exact ⟨he, hg⟩
theorem nex11_at {w : World} {o : Option Addr} (cp : Nat) (H : Tab w o T11) (hcp : 11 ≤ cp) : Calls Try.prog 28 #[.slice o 11 cp, .int .i64 9, .int .i64 10] w (SzO w (.bool false)) :=
  (pext_at cp H hcp 9 10).mono fun e w' ⟨d, he, hg, hd⟩ => by
    cases d with
    | true => exact absurd (hd.1 rfl).2 nex11
    | false => exact ⟨he, hg⟩
theorem asg11_at {w : World} {o : Option Addr} (cp : Nat) (H : Tab w o T11) (hcp : 11 ≤ cp) : Calls Try.prog 29 #[.slice o 11 cp, .int .i64 5, .int .i64 9] w (SzO w (.bool true)) :=
  (pasg_at cp H hcp 5 9).mono fun e w' ⟨d, he, hg, hd⟩ => by
    obtain rfl : d = true := hd.2 ⟨snd11 (by decide) (by decide), asg11⟩
    exact ⟨he, hg⟩
theorem snd11_1 {a : Int} (ha : inT 11 a = true) : Snd T11 [a] := ⟨fun c hc => by
  simp only [List.mem_cons, List.not_mem_nil, or_false] at hc
  rw [hc]; exact ha, good11⟩
theorem lev11_at {w : World} {o : Option Addr} (cp : Nat) (H : Tab w o T11) (hcp : 11 ≤ cp) : Calls Try.prog 54 #[.slice o 11 cp, .int .i64 10] w (SzO w (.int .i64 1)) := by
  obtain ⟨n, h1, _, hc⟩ := plevel_at cp H hcp 10
  have hl := (h1 (snd11_1 (by decide))).2
  obtain rfl : n = 1 := hl.one lv11
  exact hc
def lY (x : Tt) : La := ⟨x, none, 0, none, 0⟩
def c11 : List Value := [y7, y8, y9, y10].flatMap (fun x => laC (lY x))
theorem smY {x : Tt} (h : x ∈ [y7, y8, y9, y10]) : x.md.length ≤ lim ∧ x.nm.length ≤ lim ∧ x.fl = [] ∧ x.pm = [] := by
  simp only [List.mem_cons, List.not_mem_nil, or_false] at h
  rcases h with rfl | rfl | rfl | rfl <;> exact ⟨by decide, by decide, rfl, rfl⟩
theorem tab11 {w W : World} {d : Option Addr} {cp : Nat} {L : List Lc} {Ts : List (List Dt × List Value)} (H : Cx w (fun _ => False) none L [⟨.slice d 11 cp, 48, 10, 11, ((List.range 7).map bL).flatMap laC ++ c11⟩] Ts W) : Tab W d T11 ∧ 11 ≤ cp := by
  obtain ⟨o9, c9, e9, h9, hc9⟩ := row_clsK (H.row _ (.head _))
  cases e9
  refine ⟨⟨by rw [T11_len]; decide, (List.range 7).map bL ++ [lY y7, lY y8, lY y9, lY y10], rfl, ?_, fun a ha => ?_⟩, h9⟩
  · rw [List.flatMap_append]
    exact hc9
  · rcases List.mem_append.1 ha with ha | ha
    · obtain ⟨i, _, rfl⟩ := List.mem_map.1 ha
      exact ⟨fun j u hu => by simp [bL, bT] at hu, fun j u hu => by simp [bL, bT] at hu, sm_b i⟩
    · obtain ⟨x, hx, rfl⟩ : ∃ x, x ∈ [y7, y8, y9, y10] ∧ lY x = a := List.mem_map.1 ha
      obtain ⟨h1, h2, h3, h4⟩ := smY hx
      exact ⟨fun j u hu => by simp [lY, h3] at hu, fun j u hu => by simp [lY, h4] at hu, ⟨h1, h2, by show x.fl.length ≤ _; rw [h3]; decide, by show x.pm.length ≤ _; rw [h4]; decide, fun f hf => by rw [show (lY x).x.fl = [] from h3] at hf; cases hf⟩⟩
set_option maxHeartbeats 16000000 in
theorem wakes13 (w : World) : Calls Try.prog 25 #[] w (SzO w (.bool true)) := by
  have HC := hide (Cx.start w (fun _ => False))
  have M1 := True.intro
  go_enter Try.func25, Try.ntmps25
  go_upto_region 2 with (first | (go_at_call 53; refine (pbasic_own _).mono ?_; rintro e w1 ⟨ob, cb, rfl, hg, hr⟩; refine HC.out.row0 hg hr ?_; intro hc; (replace HC := hide hc; clear hc); clear hg hr) | (refine at_bs 24 rfl ?_; refine wl_bl rfl 24 _ _ rfl 48 c11 HC.out (by kernel_rfl) ?_; intro by' w' hn hc; (replace HC := hide hc; clear hc)) | (refine wl_app (m := 4) (us := c11) rfl _ _ rfl Try.underlying24 infoT (by decide) rfl rfl HC.out rfl (cells_at HC.out (.head _) (GetS.all c11)) rfl (by omega) (by decide) ?_; rintro v9 w' ⟨d9, cp9, rfl⟩ hg hc; clear hg; (replace HC := hide hc; clear hc); obtain ⟨ht, hcp⟩ := tab11 HC.out; have HT := hide ht; have HCp := hide hcp; have HG0 := hide HC.out.grown; replace HC := hide (Cx.start w' (fun _ => False)); clear ht hcp))
  go_wp2_with (first | (go_at_call 30; (refine (good11_at _ (HT.out.kept HC.out.grown) HCp.out).mono ?_; rintro e w2 ⟨rfl, hg⟩; replace HC := hide (HC.out.g hg); clear hg)) | (go_at_call 28; clear M1; (refine (ext11_at _ (HT.out.kept HC.out.grown) HCp.out).mono ?_; rintro e w2 ⟨rfl, hg⟩; replace HC := hide (HC.out.g hg); clear hg)) | (go_at_call 28; (refine (nex11_at _ (HT.out.kept HC.out.grown) HCp.out).mono ?_; rintro e w2 ⟨rfl, hg⟩; replace HC := hide (HC.out.g hg); clear hg)) | (go_at_call 29; (refine (asg11_at _ (HT.out.kept HC.out.grown) HCp.out).mono ?_; rintro e w2 ⟨rfl, hg⟩; replace HC := hide (HC.out.g hg); clear hg)) | (go_at_call 54; (refine (lev11_at _ (HT.out.kept HC.out.grown) HCp.out).mono ?_; rintro e w2 ⟨rfl, hg⟩; replace HC := hide (HC.out.g hg); clear hg)))
  go_ret
  exact ⟨rfl, gr_then HG0.out HC.out.grown⟩
end Go.Proofs.Ythmldhppmpbadaa.Ty
