/-
  For every two texts and every two texts of files, the law StoreForks answers true: what becomes of a fork changes nothing of what it came of, nor the other way round; no conditions.
-/
import Derived.Test.YtaekljpijnkjoaaDoorCards
import Derived.Test.YtaekljpijnkjoaaDoorTie
import Derived.Test.YtaekljpijnkjoaaDoorStarg
import Derived.Test.YtaekljpijnkjoaaDoorStlaid
import Derived.WalkKit
import Derived.ProofKit
import Derived.Below
import Derived.SevenTiedAt
import Derived.Test.YtaekljpijnkjoaaDoorSn4
namespace Go.Proofs.YtaekljpijnkjoaaDoor.storeForks
open Go.ChangeShapes Go.WideShapes Go.ChangeAt Go.RowKit Go.ChangeMaps Go.Proofs.YtaekljpijnkjoaaDoor.St Go.Proofs.YtaekljpijnkjoaaDoor.Tx
set_option linter.unusedVariables false
set_option linter.unusedSimpArgs false
set_option maxRecDepth 100000

theorem rname_v (s : List UInt8) (w : World) (hm : s.length ≤ maxLen) {v : Bool} (h : nmB s = v) : Calls Tryd.prog 21 #[.string (bs s)] w fun e w' => e = .returned (.bool v) ∧ w' = w := by
  have := rname_any s w hm
  rwa [h] at this
theorem few {l : List Pr} (h : l.length ≤ 64) : l.length < maxLen := by unfold maxLen; omega
/- The box of the two texts. -/
def Bx (W : World) (T : Nat) (x y : List UInt8) : Prop := W.heap[T]? = some (.cells #[.string (bs x), .string (bs y)] 46 (0, 0))
theorem Bx.c0 {W : World} {T : Nat} {x y : List UInt8} (h : Bx W T x y) : W.cell? ⟨T, 0, none⟩ = some (.string (bs x)) := by rw [cell_of_row _ _ _ _ _ _ h]; rfl
theorem Bx.c1 {W : World} {T : Nat} {x y : List UInt8} (h : Bx W T x y) : W.cell? ⟨T, 1, none⟩ = some (.string (bs y)) := by rw [cell_of_row _ _ _ _ _ _ h]; rfl
theorem Bx.kept {W W' : World} {T : Nat} {x y : List UInt8} (h : Bx W T x y) (hg : W.grownBy W' none) : Bx W' T x y := (hg.block T (Array.getElem?_eq_some_iff.1 h).1 (by simp)).trans h
theorem Bx.turn {W W' : World} {T b : Nat} {x y : List UInt8} {l : List Pr} (h : Bx W T x y) (f : FM W b l) (hg : W.grownBy W' (some b)) : Bx W' T x y := f.held h hg
/- What the fork holds behind the second Put. -/
def L2 (a b x y : List UInt8) : List Pr := putS b y [(a, x)]
theorem two {a b x y : List UInt8} (hb : nmB b = true) (hy : y.length ≤ 131072) : errP b y [(a, x)] = 0 ∧ (getL b (L2 a b x y)).1 = y ∧ hasL b (L2 a b x y) = true ∧ (L2 a b x y).length ≤ 64 := by
  have h1 : errP b y [(a, x)] = 0 := by simp [errP, hb, Nat.not_lt.2 hy]
  have h2 : L2 a b x y = (b, y) :: without b [(a, x)] := by simp [L2, putS, h1]
  rw [h2]
  refine ⟨h1, by simp [getL], by simp [hasL, getL], ?_⟩
  have := List.length_filter_le (fun p : Pr => p.1 != b) [(a, x)]
  simp [without] at this ⊢
  omega
theorem two_same {a x y : List UInt8} (hb : nmB a = true) (hy : y.length ≤ 131072) : (getL a (L2 a a x y)).1 = y ∧ hasL a (L2 a a x y) = true := ⟨(two hb hy).2.1, (two hb hy).2.2.1⟩
theorem two_else {a b x y : List UInt8} (hb : nmB b = true) (hy : y.length ≤ 131072) (hne : a ≠ b) : (getL a (L2 a b x y)).1 = x ∧ hasL a (L2 a b x y) = true := by
  have h1 : errP b y [(a, x)] = 0 := by simp [errP, hb, Nat.not_lt.2 hy]
  have h2 : L2 a b x y = [(b, y), (a, x)] := by simp [L2, putS, h1, without, hne]
  rw [h2]
  simp [getL, hasL, Ne.symm hne]
theorem del_first (a x : List UInt8) : hasL a [(a, x)] = true ∧ without a [(a, x)] = [] := by simp [hasL, getL, without]
theorem get_none (b : List UInt8) : (getL b []).1 = [] ∧ hasL b [] = false := by simp [hasL, getL]
/- A slice of no elements. -/
theorem none_len {w : World} {base n : Nat} {e : TypeId} {v : Value} {xs : List Value} (h : w.ownsRow base e 1 v n xs) (h0 : n = 0) : ∃ a c, v = .slice a 0 c := by
  subst h0
  rcases h.2 with ⟨rfl, _⟩ | ⟨g, cap, cur, rfl, _⟩
  · exact ⟨none, 0, rfl⟩
  · exact ⟨_, cap, rfl⟩
set_option maxHeartbeats 4000000 in

theorem walk (w : World) (s0 : List UInt8) (z0 : s0.length ≤ maxLen) (s1 : List UInt8) (z1 : s1.length ≤ maxLen) (x2 y2 : List UInt8) (bx2 : x2.length ≤ maxLen) (by2 : y2.length ≤ maxLen) :
    Calls Tryd.prog 6 #[.string (bs s0), .string (bs s1), .agg #[.string (bs x2), .string (bs y2)]] w fun e w' => e = .returned (.bool true) ∧ w.grownBy w' none := by
  have hz0 := bs_size s0
  have hz1 := bs_size s1
  have l0 : (s0.length : Int) ≤ 9223372036854775807 := by unfold maxLen at z0; omega
  have l1 : (s1.length : Int) ≤ 9223372036854775807 := by unfold maxLen at z1; omega
  have HZ0 := hide z0
  have HZ1 := hide z1
  have hx2 := bs_size x2
  have hy2 := bs_size y2
  have lx : (x2.length : Int) ≤ 9223372036854775807 := by unfold maxLen at bx2; omega
  have ly : (y2.length : Int) ≤ 9223372036854775807 := by unfold maxLen at by2; omega
  have HX0 := hide bx2
  have HY0 := hide by2
  have HX := hide (show Bx (w.alloc (.cells #[.string (bs x2), .string (bs y2)] 46)) w.heap.size x2 y2 from heap_alloc_last _ _)
  have HV := hide (alloc_g w (.cells #[.string (bs x2), .string (bs y2)] 46))
  obtain ⟨V, hV⟩ : ∃ V, w.alloc (.cells #[.string (bs x2), .string (bs y2)] 46) = V := ⟨_, rfl⟩
  rw [hV] at HX HV
  have c0 := HX.out.c0
  have c1 := HX.out.c1
  clear z0 z1 bx2 by2
  by_cases h1 : (200 : Int) < s0.length
  · go_enter Tryd.func6, Tryd.ntmps6
    go_wp2_with (go_at_call 19; refine (wakes_any _).mono ?_; rintro e v4 ⟨rfl, hg⟩; have GW := hide hg; clear hg)
    go_ret
    exact ⟨rfl, grown_trans HV.out GW.out⟩
  · by_cases h2 : (200 : Int) < s1.length
    · go_enter Tryd.func6, Tryd.ntmps6
      go_wp2_with (go_at_call 19; refine (wakes_any _).mono ?_; rintro e v4 ⟨rfl, hg⟩; have GW := hide hg; clear hg)
      go_ret
      exact ⟨rfl, grown_trans HV.out GW.out⟩
    · cases hn0 : nmB s0
      · have HN0 := hide hn0
        go_enter Tryd.func6, Tryd.ntmps6
        go_wp2_with (first | (go_at_call_of 21 (Value.string (bs s0)); refine (rname_v s0 _ HZ0.out HN0.out).mono ?_; rintro e w' ⟨rfl, h⟩; replace h := h.symm; subst h) | (go_at_call 19; refine (wakes_any _).mono ?_; rintro e v4 ⟨rfl, hg⟩; have GW := hide hg; clear hg))
        go_ret
        exact ⟨rfl, grown_trans HV.out GW.out⟩
      · cases hn1 : nmB s1
        · have HN0 := hide hn0
          have HN1 := hide hn1
          go_enter Tryd.func6, Tryd.ntmps6
          go_wp2_with (first | (go_at_call_of 21 (Value.string (bs s0)); refine (rname_v s0 _ HZ0.out HN0.out).mono ?_; rintro e w' ⟨rfl, h⟩; replace h := h.symm; subst h) | (go_at_call_of 21 (Value.string (bs s1)); refine (rname_v s1 _ HZ1.out HN1.out).mono ?_; rintro e w' ⟨rfl, h⟩; replace h := h.symm; subst h) | (go_at_call 19; refine (wakes_any _).mono ?_; rintro e v4 ⟨rfl, hg⟩; have GW := hide hg; clear hg))
          go_ret
          exact ⟨rfl, grown_trans HV.out GW.out⟩
        · have HN0 := hide hn0
          have HN1 := hide hn1
          by_cases h3 : (131072 : Int) < x2.length
          · go_enter Tryd.func6, Tryd.ntmps6
            go_wp2_with (first | (go_at_call_of 21 (Value.string (bs s0)); refine (rname_v s0 _ HZ0.out HN0.out).mono ?_; rintro e w' ⟨rfl, h⟩; replace h := h.symm; subst h) | (go_at_call_of 21 (Value.string (bs s1)); refine (rname_v s1 _ HZ1.out HN1.out).mono ?_; rintro e w' ⟨rfl, h⟩; replace h := h.symm; subst h) | (go_at_call 19; refine (wakes_any _).mono ?_; rintro e v4 ⟨rfl, hg⟩; have GW := hide hg; clear hg))
            go_ret
            exact ⟨rfl, grown_trans HV.out GW.out⟩
          · by_cases h4 : (131072 : Int) < y2.length
            · go_enter Tryd.func6, Tryd.ntmps6
              go_wp2_with (first | (go_at_call_of 21 (Value.string (bs s0)); refine (rname_v s0 _ HZ0.out HN0.out).mono ?_; rintro e w' ⟨rfl, h⟩; replace h := h.symm; subst h) | (go_at_call_of 21 (Value.string (bs s1)); refine (rname_v s1 _ HZ1.out HN1.out).mono ?_; rintro e w' ⟨rfl, h⟩; replace h := h.symm; subst h) | (go_at_call 19; refine (wakes_any _).mono ?_; rintro e v4 ⟨rfl, hg⟩; have GW := hide hg; clear hg))
              go_ret
              exact ⟨rfl, grown_trans HV.out GW.out⟩
            · have LX := hide (show x2.length ≤ 131072 by omega)
              have LY := hide (show y2.length ≤ 131072 by omega)
              have E1 := hide (two (a := s0) (x := x2) HN1.out LY.out).1
              have E5 := hide (two (a := s0) (x := x2) HN1.out LY.out).2.1
              have E6 := hide (two (a := s0) (x := x2) HN1.out LY.out).2.2.1
              by_cases hne : s0 = s1
              · subst hne
                have E3 := hide (two_same (x := x2) HN0.out LY.out).1
                have E4 := hide (two_same (x := x2) HN0.out LY.out).2
                clear HN1
                have HN1 := HN0
                clear hn0 hn1
                go_enter Tryd.func6, Tryd.ntmps6
                go_wp2_with (first | (go_at_call_of 21 (Value.string (bs s0)); refine (rname_v s0 _ HZ0.out HN0.out).mono ?_; rintro e w' ⟨rfl, h⟩; replace h := h.symm; subst h) | (go_at_call 7; refine (new_any _).mono ?_; rintro e w1 ⟨rfl, hs, hg⟩; generalize V.heap.size + 1 = h at hs ⊢; have HB := hide (show w.heap.size ≤ V.heap.size from HV.out.size); generalize V.heap.size = b at hs HB ⊢; have H1 := hide hs; have G1 := hide (grown_trans HV.out hg); have B1 := hide (HX.out.kept hg); clear c0 c1; have c0 := B1.out.c0; have c1 := B1.out.c1; clear hs hg HV HX) | (go_at_call 8; refine (St.put_at H1.out s0 x2 HZ0.out HX0.out (by decide)).mono ?_; rw [(put_first s0 x2 HN0.out LX.out).1, (put_first s0 x2 HN0.out LX.out).2]; rintro e w2 ⟨rfl, hg, hs⟩; have G2 := hide (grown_own G1.out HB.out hg); have B2 := hide (B1.out.turn H1.out.files hg); have H2 := hide hs; clear c0 c1; have c0 := B2.out.c0; have c1 := B2.out.c1; clear hs hg H1 G1 B1) | (go_at_call 15; refine (fork_at H2.out (by simp)).mono ?_; rintro e w3 ⟨h2, b2, rfl, hg, hb2, hs⟩; have G3 := hide (grown_trans G2.out hg); have B3 := hide (B2.out.kept hg); have H3 := hide (H2.out.kept hg (by simp) (by simp)); have F3 := hide hs; have NB := hide (show b ≠ b2 by have := H2.out.files.lt; omega); have NH := hide (show h ≠ b2 by have := H2.out.lt; omega); have HB2 := hide (show w.heap.size ≤ b2 by have := G2.out.size; omega); clear c0 c1; have c0 := B3.out.c0; have c1 := B3.out.c1; clear hs hg hb2 H2 G2 B2) | (go_at_call 8; refine (St.put_at F3.out s0 y2 HZ1.out HY0.out (few (by simp))).mono ?_; rw [E1.out]; rintro e w4 ⟨rfl, hg, hs⟩; have G4 := hide (grown_own G3.out HB2.out hg); have B4 := hide (B3.out.turn F3.out.files hg); have F4 := hide (show Sto w4 h2 b2 (L2 s0 s0 x2 y2) from hs); have H4 := hide (H3.out.kept hg (fun e => NH.out (Option.some.inj e)) (fun e => NB.out (Option.some.inj e))); clear c0 c1; have c0 := B4.out.c0; have c1 := B4.out.c1; clear hs hg H3 F3 G3 B3) | (go_at_call 12; refine (St.del_at H4.out s0 HZ0.out).mono ?_; rw [(del_first s0 x2).1, (del_first s0 x2).2]; rintro e w5 ⟨rfl, hg, hs⟩; have G5 := hide (grown_own G4.out HB.out hg); have B5 := hide (B4.out.turn H4.out.files hg); have H5 := hide hs; have F5 := hide (F4.out.kept hg (fun e => H4.out.files.ne F4.out.head (Option.some.inj e)) (fun e => NB.out (Option.some.inj e).symm)); clear c0 c1; have c0 := B5.out.c0; have c1 := B5.out.c1; clear hs hg H4 F4 G4 B4) | (go_at_call 10; refine (St.get_at F5.out s0 HZ0.out).mono ?_; rw [E3.out, E4.out]; rintro e w6 ⟨rfl, hg⟩; have G6 := hide (grown_trans G5.out hg); have B6 := hide (B5.out.kept hg); have H6 := hide (H5.out.kept hg (by simp) (by simp)); have F6 := hide (F5.out.kept hg (by simp) (by simp)); clear c0 c1; have c0 := B6.out.c0; have c1 := B6.out.c1; clear hg H5 F5 G5 B5) | (go_at_call 10; refine (St.get_at F6.out s0 HZ1.out).mono ?_; rw [E5.out, E6.out]; rintro e w7 ⟨rfl, hg⟩; have G7 := hide (grown_trans G6.out hg); have B7 := hide (B6.out.kept hg); have H7 := hide (H6.out.kept hg (by simp) (by simp)); clear c0 c1; have c0 := B7.out.c0; have c1 := B7.out.c1; clear hg H6 F6 G6 B6) | (go_at_call 10; refine (St.get_at H7.out s0 HZ1.out).mono ?_; rw [(get_none s0).1, (get_none s0).2]; rintro e w8 ⟨rfl, hg⟩; have G8 := hide (grown_trans G7.out hg); have B8 := hide (B7.out.kept hg); have H8 := hide (H7.out.kept hg (by simp) (by simp)); clear c0 c1; have c0 := B8.out.c0; have c1 := B8.out.c1; clear hg H7 G7 B7) | (go_at_call 18; refine (names_at H8.out (by simp)).mono ?_; rintro e w9 ⟨v, ns, rfl, hg, _, ho⟩; obtain ⟨na, nc, hv⟩ := none_len ho rfl; rw [hv]; have G9 := hide (grown_trans G8.out hg); clear hg ho hv c0 c1 B8 H8 G8) | (go_at_call 19; refine (wakes_any _).mono ?_; rintro e v4 ⟨rfl, hg⟩; have GW := hide hg; clear hg))
                go_ret
                exact ⟨rfl, grown_trans G9.out GW.out⟩
              · have ht := bs_test hne
                have E3 := hide (two_else (x := x2) HN1.out LY.out hne).1
                have E4 := hide (two_else (x := x2) HN1.out LY.out hne).2
                clear hne hn0 hn1
                go_enter Tryd.func6, Tryd.ntmps6
                go_wp2_with (first | (go_at_call_of 21 (Value.string (bs s0)); refine (rname_v s0 _ HZ0.out HN0.out).mono ?_; rintro e w' ⟨rfl, h⟩; replace h := h.symm; subst h) | (go_at_call_of 21 (Value.string (bs s1)); refine (rname_v s1 _ HZ1.out HN1.out).mono ?_; rintro e w' ⟨rfl, h⟩; replace h := h.symm; subst h) | (go_at_call 7; refine (new_any _).mono ?_; rintro e w1 ⟨rfl, hs, hg⟩; generalize V.heap.size + 1 = h at hs ⊢; have HB := hide (show w.heap.size ≤ V.heap.size from HV.out.size); generalize V.heap.size = b at hs HB ⊢; have H1 := hide hs; have G1 := hide (grown_trans HV.out hg); have B1 := hide (HX.out.kept hg); clear c0 c1; have c0 := B1.out.c0; have c1 := B1.out.c1; clear hs hg HV HX) | (go_at_call 8; refine (St.put_at H1.out s0 x2 HZ0.out HX0.out (by decide)).mono ?_; rw [(put_first s0 x2 HN0.out LX.out).1, (put_first s0 x2 HN0.out LX.out).2]; rintro e w2 ⟨rfl, hg, hs⟩; have G2 := hide (grown_own G1.out HB.out hg); have B2 := hide (B1.out.turn H1.out.files hg); have H2 := hide hs; clear c0 c1; have c0 := B2.out.c0; have c1 := B2.out.c1; clear hs hg H1 G1 B1) | (go_at_call 15; refine (fork_at H2.out (by simp)).mono ?_; rintro e w3 ⟨h2, b2, rfl, hg, hb2, hs⟩; have G3 := hide (grown_trans G2.out hg); have B3 := hide (B2.out.kept hg); have H3 := hide (H2.out.kept hg (by simp) (by simp)); have F3 := hide hs; have NB := hide (show b ≠ b2 by have := H2.out.files.lt; omega); have NH := hide (show h ≠ b2 by have := H2.out.lt; omega); have HB2 := hide (show w.heap.size ≤ b2 by have := G2.out.size; omega); clear c0 c1; have c0 := B3.out.c0; have c1 := B3.out.c1; clear hs hg hb2 H2 G2 B2) | (go_at_call 8; refine (St.put_at F3.out s1 y2 HZ1.out HY0.out (few (by simp))).mono ?_; rw [E1.out]; rintro e w4 ⟨rfl, hg, hs⟩; have G4 := hide (grown_own G3.out HB2.out hg); have B4 := hide (B3.out.turn F3.out.files hg); have F4 := hide (show Sto w4 h2 b2 (L2 s0 s1 x2 y2) from hs); have H4 := hide (H3.out.kept hg (fun e => NH.out (Option.some.inj e)) (fun e => NB.out (Option.some.inj e))); clear c0 c1; have c0 := B4.out.c0; have c1 := B4.out.c1; clear hs hg H3 F3 G3 B3) | (go_at_call 12; refine (St.del_at H4.out s0 HZ0.out).mono ?_; rw [(del_first s0 x2).1, (del_first s0 x2).2]; rintro e w5 ⟨rfl, hg, hs⟩; have G5 := hide (grown_own G4.out HB.out hg); have B5 := hide (B4.out.turn H4.out.files hg); have H5 := hide hs; have F5 := hide (F4.out.kept hg (fun e => H4.out.files.ne F4.out.head (Option.some.inj e)) (fun e => NB.out (Option.some.inj e).symm)); clear c0 c1; have c0 := B5.out.c0; have c1 := B5.out.c1; clear hs hg H4 F4 G4 B4) | (go_at_call 10; refine (St.get_at F5.out s0 HZ0.out).mono ?_; rw [E3.out, E4.out]; rintro e w6 ⟨rfl, hg⟩; have G6 := hide (grown_trans G5.out hg); have B6 := hide (B5.out.kept hg); have H6 := hide (H5.out.kept hg (by simp) (by simp)); have F6 := hide (F5.out.kept hg (by simp) (by simp)); clear c0 c1; have c0 := B6.out.c0; have c1 := B6.out.c1; clear hg H5 F5 G5 B5) | (go_at_call 10; refine (St.get_at F6.out s1 HZ1.out).mono ?_; rw [E5.out, E6.out]; rintro e w7 ⟨rfl, hg⟩; have G7 := hide (grown_trans G6.out hg); have B7 := hide (B6.out.kept hg); have H7 := hide (H6.out.kept hg (by simp) (by simp)); clear c0 c1; have c0 := B7.out.c0; have c1 := B7.out.c1; clear hg H6 F6 G6 B6) | (go_at_call 10; refine (St.get_at H7.out s1 HZ1.out).mono ?_; rw [(get_none s1).1, (get_none s1).2]; rintro e w8 ⟨rfl, hg⟩; have G8 := hide (grown_trans G7.out hg); have B8 := hide (B7.out.kept hg); have H8 := hide (H7.out.kept hg (by simp) (by simp)); clear c0 c1; have c0 := B8.out.c0; have c1 := B8.out.c1; clear hg H7 G7 B7) | (go_at_call 18; refine (names_at H8.out (by simp)).mono ?_; rintro e w9 ⟨v, ns, rfl, hg, _, ho⟩; obtain ⟨na, nc, hv⟩ := none_len ho rfl; rw [hv]; have G9 := hide (grown_trans G8.out hg); clear hg ho hv c0 c1 B8 H8 G8) | (go_at_call 19; refine (wakes_any _).mono ?_; rintro e v4 ⟨rfl, hg⟩; have GW := hide hg; clear hg))
                go_ret
                exact ⟨rfl, grown_trans G9.out GW.out⟩

set_option maxRecDepth 100000 in
theorem lifted (os : Os) (started : os.Started) (H : Type) (enc : TypeId × Value → H) :
    ReturnsInHanded {} Tryd.checked os 6 .any (fun w args => (Rows.storeForksSpec.pre enc Tryd.prog Tryd.f6 [] false w args ∧ laidMetH Tryd.prog laidL w) ∧ sizedMet enc Tryd.prog Tryd.f6 (OpenSpec.ofChange Rows.storeForksSpec) false w args)
      (Rows.storeForksSpec.post enc Tryd.prog Tryd.f6 false true false false) := by
  refine handed_and_shaped (C := Tryd.checked) (X := fun w _ => laidMetH Tryd.prog laidL w) (fun _ _ _ hh h => h.of_heap hh) own started (by kernel_rfl) Tryd.func6
    (ChangeSpec.witness_shaped (enc := enc) (C := Tryd.checked) (os := os) (X := fun w _ => laidMetH Tryd.prog laidL w) false (World.laidAll Tryd.prog os laidL) #[.string ⟨#[]⟩, .string ⟨#[]⟩, .agg #[.string ⟨#[]⟩, .string ⟨#[]⟩]] 8 (World.laidAll_os _ _ _) (sshape os) (by kernel_rfl) (by kernel_rfl) (by kernel_rfl) (smet os _)) ?_
  intro W base args ds gs before hval0 hW hL hsh
  have hval : ∀ (j : Nat) t v, Tryd.f6.params[j]? = some t → args[j]? = some v → Value.okWide Tryd.prog W .any base t v := hval0
  have hW' := hW
  obtain ⟨p, q, hA0, hV, rfl, hfz, hnd⟩ := hW
  have hA : DataW.TrodAll enc Tryd.prog W 0 (fun _ => true) true Tryd.f6.params.toList args.toList ds p := hA0
  rw [Tryd.params6] at hA hval
  obtain ⟨v0, vs0, d0, ds0, p0, q0, hargs, rfl, rfl, h0, r0⟩ := trodAll_cons hA
  obtain ⟨v1, vs1, d1, ds1, p1, q1, rfl, rfl, rfl, h1, r1⟩ := trodAll_cons r0
  obtain ⟨v2, vs2, d2, ds2, p2, q2, rfl, rfl, rfl, h2, r2⟩ := trodAll_cons r1
  obtain ⟨rfl, rfl, rfl⟩ := trodAll_nil r2
  obtain rfl : args = #[v0, v1, v2] := by cases args; simp_all
  obtain ⟨rfl, rfl⟩ := trodVars_none hV
  have k0 := h0
  have lt0 : ∀ x ∈ p0, x.block < W.heap.size := by obtain ⟨m, hm⟩ := k0; exact DataW.trod_lt m _ _ _ hm
  obtain ⟨s0, rfl, z0⟩ := open_text (hval 0 9 v0 rfl rfl) h0
  have k1 := h1
  have lt1 : ∀ x ∈ p1, x.block < W.heap.size := by obtain ⟨m, hm⟩ := k1; exact DataW.trod_lt m _ _ _ hm
  obtain ⟨s1, rfl, z1⟩ := open_text (hval 1 9 v1 rfl rfl) h1
  have k2 := h2
  have lt2 : ∀ x ∈ p2, x.block < W.heap.size := by obtain ⟨m, hm⟩ := k2; exact DataW.trod_lt m _ _ _ hm
  obtain ⟨x2, y2, rfl, bx2, by2⟩ := open_two (hval 2 46 v2 rfl rfl) h2
  clear hA0 hval0
  refine (walk W s0 z0 s1 z1 x2 y2 bx2 by2).mono fun e W' ⟨he, hg⟩ => ?_
  subst he
  have bel : Below W.heap.size W W' := ⟨hg.os, hg.tape, hg.output, hg.size, fun k hk => hg.block k hk (by simp)⟩
  exact ⟨_, rfl, _, _, _, [], _, [], hW', trodAll_mk1 (shut_bool Tryd.underlying4 _), (trodAll_cons_mk (Below.trod laidOut (by kernel_rfl) (of_decide_eq_true (by kernel_rfl)) k0 bel lt0) (trodAll_cons_mk (Below.trod laidOut (by kernel_rfl) (of_decide_eq_true (by kernel_rfl)) k1 bel lt1) (trodAll_cons_mk (Below.trod laidOut (by kernel_rfl) (of_decide_eq_true (by kernel_rfl)) k2 bel lt2) trodAll_mk0))), rfl, bel.frame _, fun h => by cases h⟩

theorem over : Rows.StoreForksSaid :=
  OpenClaim.holds_of_wide 6 Tryd.f6 rfl rfl rfl rfl rfl rfl rfl ⟨rfl, rfl, rfl, rfl, rfl⟩ rfl rfl rfl rfl rfl (by kernel_rfl) Tryd.func6 (by kernel_rfl)
    (of_decide_eq_true (by kernel_rfl)) (by unfold Func.isWrapper; first | (rw [if_pos (by decide +kernel)]; kernel_rfl) | (rw [if_neg (by decide +kernel)]; exact ⟨rfl, rfl⟩))
    (fun os started H enc _ => lifted os started H enc)

theorem proved : Rows.StoreForksCardSaid :=
  Claim7.holds_tied_plain_at .later [] [.data, .pinned] true (true, "f34cf41fdc5622416673053c98f882e136cdaf09cb127f09f3aaf0ad4432a0d5") false
    over (fun _ h => by cases h) (by kernel_rfl) (fun _ h => by cases h) storeForks_row_tie rfl ⟨rfl, rfl⟩ (by kernel_rfl) rfl
    (fun g gn hf hfn => by
      obtain rfl : g = 6 := Option.some.inj (hf.symm.trans (by kernel_rfl))
      obtain rfl : gn = Tryd.f6 := (Option.some.inj (Tryd.func6.symm.trans hfn)).symm
      exact ⟨by kernel_rfl, fun j t ht => by
        rw [Tryd.params6] at ht
        have hm : t ∈ [9, 9, 46] := by simpa using Array.mem_of_getElem? ht
        have hall : ([9, 9, 46].all fun k => !Tryd.prog.wantsStandIn k) = true := by kernel_rfl
        exact (show Tryd.prog.wantsStandIn t = false by simpa using List.all_eq_true.1 hall t hm)⟩)
    (by kernel_rfl)
end Go.Proofs.YtaekljpijnkjoaaDoor.storeForks

namespace Go.Proofs.YtaekljpijnkjoaaDoor
theorem storeForks_holds : Rows.StoreForksCardSaid := storeForks.proved
#print axioms storeForks_holds
end Go.Proofs.YtaekljpijnkjoaaDoor
