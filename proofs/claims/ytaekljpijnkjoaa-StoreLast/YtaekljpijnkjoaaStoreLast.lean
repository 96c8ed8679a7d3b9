/-
  For every two texts and every three texts of files, the law StoreLast answers true: what was put last under a name is got, the other file stays, and what was deleted is gone; no conditions.
-/
import Derived.Test.YtaekljpijnkjoaaRows
import Derived.Test.YtaekljpijnkjoaaStarg
import Derived.WalkKit
import Derived.ProofKit
import Derived.Below

namespace Go.Proofs.Ytaekljpijnkjoaa.storeLast
open Go.ChangeShapes Go.WideShapes Go.ChangeAt Go.RowKit Go.ChangeMaps Go.Proofs.Ytaekljpijnkjoaa.St Go.Proofs.Ytaekljpijnkjoaa.Tx
set_option linter.unusedVariables false
set_option linter.unusedSimpArgs false
set_option maxRecDepth 100000

theorem rname_v (s : List UInt8) (w : World) (hm : s.length ≤ maxLen) {v : Bool} (h : nmB s = v) : Calls Try.prog 7 #[.string (bs s)] w fun e w' => e = .returned (.bool v) ∧ w' = w := by
  have := rname_any s w hm
  rwa [h] at this
theorem few {l : List Pr} (h : l.length ≤ 64) : l.length < maxLen := by unfold maxLen; omega
/- The box of the three texts. -/
def Bx (W : World) (T : Nat) (x y z : List UInt8) : Prop := W.heap[T]? = some (.cells #[.string (bs x), .string (bs y), .string (bs z)] 28 (0, 0))
theorem Bx.c0 {W : World} {T : Nat} {x y z : List UInt8} (h : Bx W T x y z) : W.cell? ⟨T, 0, none⟩ = some (.string (bs x)) := by rw [cell_of_row _ _ _ _ _ _ h]; rfl
theorem Bx.c1 {W : World} {T : Nat} {x y z : List UInt8} (h : Bx W T x y z) : W.cell? ⟨T, 1, none⟩ = some (.string (bs y)) := by rw [cell_of_row _ _ _ _ _ _ h]; rfl
theorem Bx.c2 {W : World} {T : Nat} {x y z : List UInt8} (h : Bx W T x y z) : W.cell? ⟨T, 2, none⟩ = some (.string (bs z)) := by rw [cell_of_row _ _ _ _ _ _ h]; rfl
theorem Bx.kept {W W' : World} {T : Nat} {x y z : List UInt8} (h : Bx W T x y z) (hg : W.grownBy W' none) : Bx W' T x y z := (hg.block T (Array.getElem?_eq_some_iff.1 h).1 (by simp)).trans h
theorem Bx.turn {W W' : World} {T b : Nat} {x y z : List UInt8} {l : List Pr} (h : Bx W T x y z) (f : FM W b l) (hg : W.grownBy W' (some b)) : Bx W' T x y z := f.held h hg
theorem put_a {a b x y z : List UInt8} (hb : nmB b = true) (hne : a ≠ b) (hy : y.length ≤ 131072) : errP b y [(a, x)] = 0 ∧ putS b y [(a, x)] = [(b, y), (a, x)] := by
  have h1 : errP b y [(a, x)] = 0 := by simp [errP, hb, Nat.not_lt.2 hy]
  exact ⟨h1, by simp [putS, h1, without, hne]⟩
theorem put_b {a b x y z : List UInt8} (ha : nmB a = true) (hne : a ≠ b) (hz : z.length ≤ 131072) : errP a z [(b, y), (a, x)] = 0 ∧ putS a z [(b, y), (a, x)] = [(a, z), (b, y)] := by
  have h1 : errP a z [(b, y), (a, x)] = 0 := by simp [errP, ha, Nat.not_lt.2 hz]
  exact ⟨h1, by simp [putS, h1, without, hne, Ne.symm hne]⟩
theorem get_a (a b y z : List UInt8) : (getL a [(a, z), (b, y)]).1 = z ∧ hasL a [(a, z), (b, y)] = true := by simp [hasL, getL]
theorem get_b {a b : List UInt8} (hne : a ≠ b) (y z : List UInt8) : (getL b [(a, z), (b, y)]).1 = y ∧ hasL b [(a, z), (b, y)] = true := by simp [hasL, getL, hne]
theorem del_a {a b : List UInt8} (hne : a ≠ b) (y z : List UInt8) : without a [(a, z), (b, y)] = [(b, y)] := by simp [without, Ne.symm hne]
theorem get_c {a b : List UInt8} (hne : a ≠ b) (y : List UInt8) : (getL a [(b, y)]).1 = [] ∧ hasL a [(b, y)] = false := by simp [hasL, getL, Ne.symm hne]
set_option maxHeartbeats 4000000 in

theorem walk (w : World) (s0 : List UInt8) (z0 : s0.length ≤ maxLen) (s1 : List UInt8) (z1 : s1.length ≤ maxLen) (x2 y2 z2 : List UInt8) (bx2 : x2.length ≤ maxLen) (by2 : y2.length ≤ maxLen) (bz2 : z2.length ≤ maxLen) :
    Calls Try.prog 4 #[.string (bs s0), .string (bs s1), .agg #[.string (bs x2), .string (bs y2), .string (bs z2)]] w fun e w' => e = .returned (.bool true) ∧ w.grownBy w' none := by
  have hz0 := bs_size s0
  have hz1 := bs_size s1
  have l0 : (s0.length : Int) ≤ 9223372036854775807 := by unfold maxLen at z0; omega
  have l1 : (s1.length : Int) ≤ 9223372036854775807 := by unfold maxLen at z1; omega
  have HZ0 := hide z0
  have HZ1 := hide z1
  clear z0 z1
  by_cases h1 : (200 : Int) < s0.length
  · clear hz1 l1 bx2 by2 bz2
    go_enter Try.func4, Try.ntmps4
    go_wp2_with (go_at_call 5; refine (wakes_any _).mono ?_; rintro e w4 ⟨rfl, hg⟩; have G4 := hide hg; clear hg)
    go_ret
    exact ⟨rfl, grown_trans (alloc_g _ _) G4.out⟩
  · by_cases h2 : (200 : Int) < s1.length
    · clear bx2 by2 bz2
      go_enter Try.func4, Try.ntmps4
      go_wp2_with (go_at_call 5; refine (wakes_any _).mono ?_; rintro e w4 ⟨rfl, hg⟩; have G4 := hide hg; clear hg)
      go_ret
      exact ⟨rfl, grown_trans (alloc_g _ _) G4.out⟩
    · cases hn0 : nmB s0
      · have HN0 := hide hn0
        clear bx2 by2 bz2
        go_enter Try.func4, Try.ntmps4
        go_wp2_with (first | (go_at_call_of 7 (Value.string (bs s0)); refine (rname_v s0 _ HZ0.out HN0.out).mono ?_; rintro e w' ⟨rfl, h⟩; replace h := h.symm; subst h) | (go_at_call 5; refine (wakes_any _).mono ?_; rintro e w4 ⟨rfl, hg⟩; have G4 := hide hg; clear hg))
        go_ret
        exact ⟨rfl, grown_trans (alloc_g _ _) G4.out⟩
      · cases hn1 : nmB s1
        · have HN0 := hide hn0
          have HN1 := hide hn1
          clear bx2 by2 bz2
          go_enter Try.func4, Try.ntmps4
          go_wp2_with (first | (go_at_call_of 7 (Value.string (bs s0)); refine (rname_v s0 _ HZ0.out HN0.out).mono ?_; rintro e w' ⟨rfl, h⟩; replace h := h.symm; subst h) | (go_at_call_of 7 (Value.string (bs s1)); refine (rname_v s1 _ HZ1.out HN1.out).mono ?_; rintro e w' ⟨rfl, h⟩; replace h := h.symm; subst h) | (go_at_call 5; refine (wakes_any _).mono ?_; rintro e w4 ⟨rfl, hg⟩; have G4 := hide hg; clear hg))
          go_ret
          exact ⟨rfl, grown_trans (alloc_g _ _) G4.out⟩
        · by_cases hne : s0 = s1
          · subst hne
            have HN0 := hide hn0
            clear bx2 by2 bz2
            go_enter Try.func4, Try.ntmps4
            go_wp2_with (first | (go_at_call_of 7 (Value.string (bs s0)); refine (rname_v s0 _ HZ0.out HN0.out).mono ?_; rintro e w' ⟨rfl, h⟩; replace h := h.symm; subst h) | (go_at_call 5; refine (wakes_any _).mono ?_; rintro e w4 ⟨rfl, hg⟩; have G4 := hide hg; clear hg))
            go_ret
            exact ⟨rfl, grown_trans (alloc_g _ _) G4.out⟩
          · have HN0 := hide hn0
            have HN1 := hide hn1
            have HNE := hide hne
            have ht := bs_test hne
            have hx2 := bs_size x2
            have hy2 := bs_size y2
            have hw2 := bs_size z2
            have lx : (x2.length : Int) ≤ 9223372036854775807 := by unfold maxLen at bx2; omega
            have ly : (y2.length : Int) ≤ 9223372036854775807 := by unfold maxLen at by2; omega
            have lz : (z2.length : Int) ≤ 9223372036854775807 := by unfold maxLen at bz2; omega
            have HX0 := hide bx2
            have HY0 := hide by2
            have HW0 := hide bz2
            have HX := hide (show Bx (w.alloc (.cells #[.string (bs x2), .string (bs y2), .string (bs z2)] 28)) w.heap.size x2 y2 z2 from heap_alloc_last _ _)
            have HV := hide (alloc_g w (.cells #[.string (bs x2), .string (bs y2), .string (bs z2)] 28))
            clear hne hn0 hn1 bx2 by2 bz2
            obtain ⟨V, hV⟩ : ∃ V, w.alloc (.cells #[.string (bs x2), .string (bs y2), .string (bs z2)] 28) = V := ⟨_, rfl⟩
            rw [hV] at HX HV
            have c0 := HX.out.c0
            have c1 := HX.out.c1
            have c2 := HX.out.c2
            go_enter Try.func4, Try.ntmps4
            go_wp2_with (first | (go_at_call_of 7 (Value.string (bs s0)); refine (rname_v s0 _ HZ0.out HN0.out).mono ?_; rintro e w' ⟨rfl, h⟩; replace h := h.symm; subst h) | (go_at_call_of 7 (Value.string (bs s1)); refine (rname_v s1 _ HZ1.out HN1.out).mono ?_; rintro e w' ⟨rfl, h⟩; replace h := h.symm; subst h))
            go_loop [7] (fun iv => ∃ i : Nat, i ≤ 3 ∧ iv = .int .i64 i ∧ (1 ≤ i → x2.length ≤ 131072) ∧ (2 ≤ i → y2.length ≤ 131072) ∧ (3 ≤ i → z2.length ≤ 131072)) (fun iv => 3 - (intOf iv).toNat)
            case atStart => exact ⟨0, by omega, rfl, by omega, by omega, by omega⟩
            case round =>
              obtain ⟨i, hi, rfl, q0, q1, q2⟩ := hrel
              have Q0 := hide q0
              have Q1 := hide q1
              have Q2 := hide q2
              clear q0 q1 q2
              have hi4 : i = 0 ∨ i = 1 ∨ i = 2 ∨ i = 3 := by omega
              rcases hi4 with rfl | rfl | rfl | rfl
              · by_cases hx : (131072 : Int) < x2.length
                · go_wp2_with (go_at_call 5; refine (wakes_any _).mono ?_; rintro e w4 ⟨rfl, hg⟩; have G4 := hide hg; clear hg)
                  go_ret
                  exact ⟨rfl, grown_trans HV.out G4.out⟩
                · have LX := hide (show x2.length ≤ 131072 by omega)
                  go_wp2
                  exact ⟨⟨1, by omega, by go_num, fun _ => LX.out, by omega, by omega⟩, by simp [intOf]⟩
              · by_cases hx : (131072 : Int) < y2.length
                · go_wp2_with (go_at_call 5; refine (wakes_any _).mono ?_; rintro e w4 ⟨rfl, hg⟩; have G4 := hide hg; clear hg)
                  go_ret
                  exact ⟨rfl, grown_trans HV.out G4.out⟩
                · have LX := hide (show y2.length ≤ 131072 by omega)
                  go_wp2
                  exact ⟨⟨2, by omega, by go_num, fun _ => Q0.out (by omega), fun _ => LX.out, by omega⟩, by simp [intOf]⟩
              · by_cases hx : (131072 : Int) < z2.length
                · go_wp2_with (go_at_call 5; refine (wakes_any _).mono ?_; rintro e w4 ⟨rfl, hg⟩; have G4 := hide hg; clear hg)
                  go_ret
                  exact ⟨rfl, grown_trans HV.out G4.out⟩
                · have LX := hide (show z2.length ≤ 131072 by omega)
                  go_wp2
                  exact ⟨⟨3, by omega, by go_num, fun _ => Q0.out (by omega), fun _ => Q1.out (by omega), fun _ => LX.out⟩, by simp [intOf]⟩
              · have LX := hide (Q0.out (by omega))
                have LY := hide (Q1.out (by omega))
                have LW := hide (Q2.out (by omega))
                clear Q0 Q1 Q2 hz0 hz1 hx2 hy2 hw2 l0 l1 lx ly lz h1 h2
                go_wp2_with (first | (go_at_call 8; refine (new_any _).mono ?_; rintro e w1 ⟨rfl, hs, hg⟩; generalize V.heap.size + 1 = h at hs ⊢; have hb := hs.files.lt; have HB := hide (show w.heap.size ≤ V.heap.size from HV.out.size); generalize V.heap.size = b at hs HB hb ⊢; have H1 := hide hs; have G1 := hide (grown_trans HV.out hg); have B1 := hide (HX.out.kept hg); have c0 := B1.out.c0; have c1 := B1.out.c1; have c2 := B1.out.c2; clear hs hg hb) | (go_at_call 9; refine (St.put_at H1.out s0 x2 HZ0.out HX0.out (by decide)).mono ?_; rw [(put_first s0 x2 HN0.out LX.out).1, (put_first s0 x2 HN0.out LX.out).2]; rintro e w2 ⟨rfl, hg, hs⟩; have G2 := hide (grown_own G1.out HB.out hg); have B2 := hide (B1.out.turn H1.out.files hg); have H2 := hide hs; clear hs hg c0 c1 c2; have c0 := B2.out.c0; have c1 := B2.out.c1; have c2 := B2.out.c2; clear H1 G1 B1) | (go_at_call 9; refine (St.put_at H2.out s1 y2 HZ1.out HY0.out (few (by simp))).mono ?_; rw [(put_a (z := []) HN1.out HNE.out LY.out).1, (put_a (z := []) HN1.out HNE.out LY.out).2]; rintro e w3 ⟨rfl, hg, hs⟩; have G3 := hide (grown_own G2.out HB.out hg); have B3 := hide (B2.out.turn H2.out.files hg); have H3 := hide hs; clear hs hg c0 c1 c2; have c0 := B3.out.c0; have c1 := B3.out.c1; have c2 := B3.out.c2; clear H2 G2 B2) | (go_at_call 9; refine (St.put_at H3.out s0 z2 HZ0.out HW0.out (few (by simp))).mono ?_; rw [(put_b HN0.out HNE.out LW.out).1, (put_b HN0.out HNE.out LW.out).2]; rintro e w5 ⟨rfl, hg, hs⟩; have G4 := hide (grown_own G3.out HB.out hg); have B4 := hide (B3.out.turn H3.out.files hg); have H4 := hide hs; clear hs hg c0 c1 c2; have c0 := B4.out.c0; have c1 := B4.out.c1; have c2 := B4.out.c2; clear H3 G3 B3) | (go_at_call 10; refine (St.get_at H4.out s0 HZ0.out).mono ?_; rw [(get_a s0 s1 y2 z2).1, (get_a s0 s1 y2 z2).2]; rintro e w6 ⟨rfl, hg⟩; have G5 := hide (grown_trans G4.out hg); have B5 := hide (B4.out.kept hg); have H5 := hide (H4.out.kept hg (by simp) (by simp)); clear hg c0 c1 c2; have c0 := B5.out.c0; have c1 := B5.out.c1; have c2 := B5.out.c2; clear H4 G4 B4) | (go_at_call 10; refine (St.get_at H5.out s1 HZ1.out).mono ?_; rw [(get_b HNE.out y2 z2).1, (get_b HNE.out y2 z2).2]; rintro e w7 ⟨rfl, hg⟩; have G6 := hide (grown_trans G5.out hg); have B6 := hide (B5.out.kept hg); have H6 := hide (H5.out.kept hg (by simp) (by simp)); clear hg c0 c1 c2; have c0 := B6.out.c0; have c1 := B6.out.c1; have c2 := B6.out.c2; clear H5 G5 B5) | (go_at_call 11; refine (St.del_at H6.out s0 HZ0.out).mono ?_; rw [(get_a s0 s1 y2 z2).2, del_a HNE.out y2 z2]; rintro e w8 ⟨rfl, hg, hs⟩; have G7 := hide (grown_own G6.out HB.out hg); have B7 := hide (B6.out.turn H6.out.files hg); have H7 := hide hs; clear hs hg c0 c1 c2; have c0 := B7.out.c0; have c1 := B7.out.c1; have c2 := B7.out.c2; clear H6 G6 B6) | (go_at_call 10; refine (St.get_at H7.out s0 HZ0.out).mono ?_; rw [(get_c HNE.out y2).1, (get_c HNE.out y2).2]; rintro e w9 ⟨rfl, hg⟩; have G8 := hide (grown_trans G7.out hg); have B8 := hide (B7.out.kept hg); have H8 := hide (H7.out.kept hg (by simp) (by simp)); clear hg c0 c1 c2; have c0 := B8.out.c0; have c1 := B8.out.c1; have c2 := B8.out.c2; clear H7 G7 B7) | (go_at_call 10; refine (St.get_at H8.out s1 HZ1.out).mono ?_; rw [(get_first s1 y2).1, (get_first s1 y2).2]; rintro e v1 ⟨rfl, hg⟩; have G9 := hide (grown_trans G8.out hg); have B9 := hide (B8.out.kept hg); have H9 := hide (H8.out.kept hg (by simp) (by simp)); clear hg c0 c1 c2; have c0 := B9.out.c0; have c1 := B9.out.c1; have c2 := B9.out.c2; clear H8 G8 B8) | (go_at_call 11; refine (St.del_at H9.out s0 HZ0.out).mono ?_; rw [(get_c HNE.out y2).2]; rintro e v2 ⟨rfl, hg, hs⟩; have G10 := hide (grown_own G9.out HB.out hg); clear hs hg c0 c1 c2 H9 G9 B9) | (go_at_call 5; refine (wakes_any _).mono ?_; rintro e w4 ⟨rfl, hg⟩; have G4 := hide hg; clear hg))
                go_ret
                exact ⟨rfl, grown_trans G10.out G4.out⟩

set_option maxRecDepth 100000 in
theorem lifted (os : Os) (started : os.Started) (H : Type) (enc : TypeId × Value → H) :
    ReturnsInHanded {} Try.checked os 4 .any (Rows.storeLastSpec.pre6 enc Try.prog Try.f4 Rows.storeLastRow.domain false) (Rows.storeLastSpec.post enc Try.prog Try.f4 false true false false) := by
  refine returnsInHanded_of_change (C := Try.checked) own started (by kernel_rfl) Try.func4
    (ChangeSpec.witness6 (enc := enc) (C := Try.checked) false ⟨#[], #[.string ⟨#[]⟩, .string ⟨#[]⟩, .agg #[.string ⟨#[]⟩, .string ⟨#[]⟩, .string ⟨#[]⟩]], []⟩ 8 (by kernel_rfl) (by kernel_rfl) (by kernel_rfl) (by kernel_rfl)) ?_
  intro W base args ds gs before hval0 hW hcnd _
  have hval : ∀ (j : Nat) t v, Try.f4.params[j]? = some t → args[j]? = some v → Value.okWide Try.prog W .any base t v := hval0
  have hW' := hW
  obtain ⟨p, q, hA0, hV, rfl, hfz, hnd⟩ := hW
  have hA : DataW.TrodAll enc Try.prog W 0 (fun _ => true) true Try.f4.params.toList args.toList ds p := hA0
  rw [Try.params4] at hA hval
  obtain ⟨v0, vs0, d0, ds0, p0, q0, hargs, rfl, rfl, h0, r0⟩ := trodAll_cons hA
  obtain ⟨v1, vs1, d1, ds1, p1, q1, rfl, rfl, rfl, h1, r1⟩ := trodAll_cons r0
  obtain ⟨v2, vs2, d2, ds2, p2, q2, rfl, rfl, rfl, h2, r2⟩ := trodAll_cons r1
  obtain ⟨rfl, rfl, rfl⟩ := trodAll_nil r2
  obtain rfl : args = #[v0, v1, v2] := by cases args; simp_all
  obtain ⟨rfl, rfl⟩ := trodVars_none hV
  have k0 := h0
  have lt0 : ∀ x ∈ p0, x.block < W.heap.size := by obtain ⟨m, hm⟩ := k0; exact DataW.trod_lt m _ _ _ hm
  obtain ⟨s0, rfl, z0⟩ := open_text (hval 0 9 v0 rfl rfl) h0
  have k1 := h1
  have lt1 : ∀ x ∈ p1, x.block < W.heap.size := by obtain ⟨m, hm⟩ := k1; exact DataW.trod_lt m _ _ _ hm
  obtain ⟨s1, rfl, z1⟩ := open_text (hval 1 9 v1 rfl rfl) h1
  have k2 := h2
  have lt2 : ∀ x ∈ p2, x.block < W.heap.size := by obtain ⟨m, hm⟩ := k2; exact DataW.trod_lt m _ _ _ hm
  obtain ⟨x2, y2, z2, rfl, bx2, by2, bz2⟩ := open_three (hval 2 28 v2 rfl rfl) h2
  clear hA0 hval0
  refine (walk W s0 z0 s1 z1 x2 y2 z2 bx2 by2 bz2).mono fun e W' ⟨he, hg⟩ => ?_
  subst he
  have bel : Below W.heap.size W W' := ⟨hg.os, hg.tape, hg.output, hg.size, fun k hk => hg.block k hk (by simp)⟩
  exact ⟨_, rfl, _, _, _, [], _, [], hW', trodAll_mk1 (shut_bool Try.underlying4 _), (trodAll_cons_mk (Below.trod laidOut (by kernel_rfl) (of_decide_eq_true (by kernel_rfl)) k0 bel lt0) (trodAll_cons_mk (Below.trod laidOut (by kernel_rfl) (of_decide_eq_true (by kernel_rfl)) k1 bel lt1) (trodAll_cons_mk (Below.trod laidOut (by kernel_rfl) (of_decide_eq_true (by kernel_rfl)) k2 bel lt2) trodAll_mk0))), rfl, bel.frame _, fun h => by cases h⟩

theorem proved : Rows.StoreLastSaid :=
  OpenClaim.holds_of_wide 4 Try.f4 rfl rfl rfl rfl rfl rfl rfl ⟨rfl, rfl, rfl, rfl, rfl⟩ rfl rfl rfl rfl rfl (by kernel_rfl) Try.func4 (by kernel_rfl)
    (of_decide_eq_true (by kernel_rfl)) (by unfold Func.isWrapper; first | (rw [if_pos (by decide +kernel)]; kernel_rfl) | (rw [if_neg (by decide +kernel)]; exact ⟨rfl, rfl⟩))
    (fun os started H enc _ => lifted os started H enc)
end Go.Proofs.Ytaekljpijnkjoaa.storeLast

namespace Go.Proofs.Ytaekljpijnkjoaa
theorem storeLast_holds : Rows.StoreLastSaid := storeLast.proved
#print axioms storeLast_holds
end Go.Proofs.Ytaekljpijnkjoaa
