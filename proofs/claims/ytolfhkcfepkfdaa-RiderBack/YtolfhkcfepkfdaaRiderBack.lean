/-
  For every list of items, the law RiderBack answers true: what was written is read as it was, in its order, and then the reader stands at its end; no conditions.
-/
import Derived.Test.YtolfhkcfepkfdaaRows
import Derived.Test.YtolfhkcfepkfdaaRiarg
import Derived.WalkKit
import Derived.ProofKit
import Derived.Below
import Derived.Test.YtolfhkcfepkfdaaRb8
import Derived.Deep.RegionHeld3
namespace Go.Proofs.Ytolfhkcfepkfdaa.riderBack
open Go.ChangeShapes Go.WideShapes Go.ChangeAt Go.RowKit Go.ChangeMaps Go.Proofs.Ytolfhkcfepkfdaa.Ri Go.Proofs.Ytolfhkcfepkfdaa.Tx
set_option linter.unusedVariables false
set_option linter.unusedSimpArgs false
set_option maxRecDepth 100000

/- A writer of the law's own, since w began, behind k items. -/
structure Wk (w W : World) (q : Nat) (v : Value) (f : Nat → It) (k : Nat) (xs : List UInt8) (sp : Bool) : Prop where
  ww : Ww W w.heap.size q v xs sp
  gr : w.grownBy W none
  lq : w.heap.size ≤ q
  le : xs.length ≤ 65 * k
  is : sp = false → encK f k = some xs
theorem Wk.next {w W W' : World} {q k : Nat} {v v' : Value} {f : Nat → It} {xs : List UInt8} {sp : Bool} (h : Wk w W q v f k xs sp) (hw : Ww W' w.heap.size q v' (pxs xs sp (encI (f k))) (psp sp (encI (f k)))) (st : Wst W W' q v v') : Wk w W' q v' f (k + 1) (pxs xs sp (encI (f k))) (psp sp (encI (f k))) := by
  refine ⟨hw, own_g h.gr h.lq h.ww.old st, h.lq, ?_, ?_⟩
  · have h1 := h.le
    cases he : encI (f k) with
    | none => simp [pxs]
    | some e =>
      have := few_enc (f k) e he
      have := nxA_len xs sp e
      show (nxA xs sp e).length ≤ _
      omega
  · intro hs
    cases he : encI (f k) with
    | none => rw [he] at hs; cases hs
    | some e =>
      rw [he] at hs
      have hs : sp = false := hs
      subst hs
      exact encK_succ (h.is rfl) he
theorem Wk.stay {w W : World} {q k : Nat} {v : Value} {f : Nat → It} {xs : List UInt8} {sp : Bool} (h : Wk w W q v f k xs sp) (he : encI (f k) = some []) : Wk w W q v f (k + 1) xs sp :=
  ⟨h.ww, h.gr, h.lq, by have := h.le; omega, fun hs => by have := encK_succ (h.is hs) he; rwa [List.append_nil] at this⟩
/- A reader of the law's own. -/
structure Rk (w W : World) (q : Nat) (s : List UInt8) (f : Nat → It) (k : Nat) (a : List UInt8) : Prop where
  rd : Pb W q s a.length false
  gr : w.grownBy W none
  lq : w.heap.size ≤ q
  is : encK f k = some a
theorem Rk.next {w W W' : World} {q k : Nat} {s a e : List UInt8} {f : Nat → It} {p : Nat} (h : Rk w W q s f k a) (hp : p = a.length + e.length) (hr : Pb W' q s p false) (hg : W.grownBy W' (some q)) (he : encK f (k + 1) = some (a ++ e)) : Rk w W' q s f (k + 1) (a ++ e) :=
  ⟨by rw [List.length_append, ← hp]; exact hr, grown_own h.gr h.lq hg, h.lq, he⟩
theorem Rk.kept {w W W' : World} {q k : Nat} {s a : List UInt8} {f : Nat → It} (h : Rk w W q s f k a) (hg : W.grownBy W' none) : Rk w W' q s f k a := ⟨h.rd.kept hg, grown_trans h.gr hg, h.lq, h.is⟩
set_option maxHeartbeats 4000000 in

theorem walk (w : World) (o0 : Option Addr) (n0 c0 : Nat) (f0 : Nat → It) (S0 : Il w o0 n0 f0) :
    Calls Try.prog 5 #[.slice o0 n0 c0] w fun e w' => e = .returned (.bool true) ∧ w.grownBy w' none := by
  have HS := hide S0
  have hmax : (n0 : Int) ≤ 9223372036854775807 := by have := S0.max; unfold maxLen at this; omega
  have b0' : (⟨#[]⟩ : ByteArray) = bs [] := rfl
  have hemp : (bs []).toList.isEmpty = true := by rw [bs_emp]; rfl
  clear S0
  by_cases h200 : (200 : Int) < n0
  · go_enter Try.func5, Try.ntmps5
    go_wp2_with (go_at_call 10; refine (wakes_any _).mono ?_; rintro e w9 ⟨rfl, hg⟩; have G9 := hide hg; clear hg)
    go_ret
    exact ⟨rfl, G9.out⟩
  · have hn200 : n0 ≤ 200 := by omega
    go_enter Try.func5, Try.ntmps5
    go_wp2_with (go_at_call 9; refine (write_new _).mono ?_; rintro e w1 ⟨rfl, h1, h2⟩; have H1 := hide (show Wk w w1 w.heap.size (.slice none 0 0) f0 0 [] false from ⟨h1, h2, Nat.le_refl _, by simp, fun _ => rfl⟩); clear h1 h2)
    go_loopw [4] (fun i W => ∃ (k : Nat) (v : Value) (xs : List UInt8) (b : Bool), k ≤ n0 ∧ i = .int .i64 k ∧ Ri.Hid (Wk w W w.heap.size v f0 k xs b)) (fun i _ => n0 - (intOf i).toNat)
    case atStart => exact ⟨0, _, [], false, Nat.zero_le _, rfl, H1⟩
    case round =>
      clear H1
      obtain ⟨k, v, xs, b, hk, rfl, HW⟩ := hrel
      by_cases hlt1 : k < n0
      · have i1 : (k : Int) < (n0 : Int) := by omega
        obtain ⟨ad, rfl⟩ : ∃ ad, o0 = some ad := by
          cases o0 with
          | none => have := HS.out.none rfl; omega
          | some ad => exact ⟨ad, rfl⟩
        obtain ⟨A0, hA⟩ : ∃ A, ad.add (k * 3) = A := ⟨_, rfl⟩
        obtain ⟨s0', s1', s2'⟩ := HS.out.at' ad rfl k hlt1
        rw [hA] at s0' s1' s2'
        rw [Addr.add_zero'] at s0'
        rw [Addr.add_succ'] at s1' s2'
        simp only [Nat.zero_add, Nat.reduceAdd] at s1' s2'
        obtain ⟨q0, q1, q2⟩ := HS.out.ok k hlt1
        have HEI := hide (show encI (f0 k) = encI ⟨(f0 k).k, (f0 k).n, (f0 k).t⟩ from rfl)
        obtain ⟨ik, hik⟩ : ∃ x, (f0 k).k = x := ⟨_, rfl⟩
        obtain ⟨im, him⟩ : ∃ x, (f0 k).n = x := ⟨_, rfl⟩
        obtain ⟨it, hit⟩ : ∃ x, (f0 k).t = x := ⟨_, rfl⟩
        rw [hik] at s0' q0
        rw [him] at s1' q1
        rw [hit] at s2' q2
        rw [hik, him, hit] at HEI
        have hbd : -9223372036854775808 ≤ im ∧ im ≤ 9223372036854775807 := by
          have e0 : IntKind.i64.min = -9223372036854775808 := by decide
          have e1 : IntKind.i64.max = 9223372036854775807 := by decide
          simp [Lit.wf, e0, e1] at q1
          omega
        have HB := hide hbd
        have hzt := bs_size it
        have lt : (it.length : Int) ≤ 9223372036854775807 := by unfold maxLen at q2; omega
        have kp : ∀ {a : Addr} {x : Value}, w.cell? a = some x → wr.cell? a = some x := fun {a x} h => HW.out.gr.cell h (by simp)
        replace s0' := kp s0'
        replace s1' := kp s1'
        replace s2' := kp s2'
        clear kp hik him hit q0 q1 q2 hbd
        by_cases hbig : (200000 : Int) < it.length
        · go_wp2_with (go_at_call 10; refine (wakes_any _).mono ?_; rintro e w9 ⟨rfl, hg⟩; have G9 := hide (grown_trans HW.out.gr hg); clear hg)
          go_ret
          exact ⟨rfl, G9.out⟩
        · have HL := hide (show it.length ≤ 1000000 by omega)
          have HX := hide (show xs.length ≤ 100000 by have := HW.out.le; omega)
          by_cases k0 : ik = 0
          · as_aux_lemma =>
              subst k0
              have HEn := hide (show encI (f0 k) = some [lo8 im] from HEI.out)
              have HP := hide (pput_byte im)
              go_wp2_with (go_at_call 16; refine (HP.out _ _ _ _ _ _ HW.out.ww HX.out HW.out.gr.size).mono ?_; rintro e w2 ⟨rfl, v2, h1, h2⟩; have HW2 := hide (HW.out.next (by rw [HEn.out]; exact h1) h2); clear h1 h2)
              (go_roundw; (case rel => exact ⟨k + 1, v2, _, _, by omega, by go_num, HW2⟩); (case measure => simp [intOf]; omega))
          by_cases k1 : ik = 1
          · as_aux_lemma =>
              subst k1
              have HEn := hide (show encI (f0 k) = numO im from HEI.out)
              have HP := hide (pput_num im)
              go_wp2_with (go_at_call 17; refine (HP.out _ _ _ _ _ _ HW.out.ww HX.out HW.out.gr.size).mono ?_; rintro e w2 ⟨rfl, v2, h1, h2⟩; have HW2 := hide (HW.out.next (by rw [HEn.out]; exact h1) h2); clear h1 h2)
              (go_roundw; (case rel => exact ⟨k + 1, v2, _, _, by omega, by go_num, HW2⟩); (case measure => simp [intOf]; omega))
          by_cases k2 : ik = 2
          · as_aux_lemma =>
              subst k2
              have HEn := hide (show encI (f0 k) = some (wordL (im % 4294967296)) from HEI.out)
              have y0 : 0 ≤ im % 4294967296 ∧ im % 4294967296 < 4294967296 := by omega
              have HP := hide (pput_word (im % 4294967296) y0.1 y0.2)
              obtain ⟨X, hX⟩ : ∃ X, im % 4294967296 = X := ⟨_, rfl⟩
              rw [hX] at HP HEn y0
              go_wp2_with (go_at_call 18; refine (HP.out _ _ _ _ _ _ HW.out.ww HX.out HW.out.gr.size).mono ?_; rintro e w2 ⟨rfl, v2, h1, h2⟩; have HW2 := hide (HW.out.next (by rw [HEn.out]; exact h1) h2); clear h1 h2)
              (go_roundw; (case rel => exact ⟨k + 1, v2, _, _, by omega, by go_num, HW2⟩); (case measure => simp [intOf]; omega))
          by_cases k3 : ik = 3
          · as_aux_lemma =>
              subst k3
              have HEn := hide (show encI (f0 k) = textO it from HEI.out)
              have HP := hide (pput_text it HL.out)
              go_wp2_with (go_at_call 19; refine (HP.out _ _ _ _ _ _ HW.out.ww HX.out HW.out.gr.size).mono ?_; rintro e w2 ⟨rfl, v2, h1, h2⟩; have HW2 := hide (HW.out.next (by rw [HEn.out]; exact h1) h2); clear h1 h2)
              (go_roundw; (case rel => exact ⟨k + 1, v2, _, _, by omega, by go_num, HW2⟩); (case measure => simp [intOf]; omega))
          · as_aux_lemma =>
              have HEn := hide (show encI (f0 k) = some [] by rw [HEI.out]; simp [encI, k0, k1, k2, k3])
              have HW2 := hide (HW.out.stay HEn.out)
              have t0 : (ik == 0) = false := by simpa using k0
              have t1 : (ik == 1) = false := by simpa using k1
              have t2 : (ik == 2) = false := by simpa using k2
              have t3 : (ik == 3) = false := by simpa using k3
              go_wp2
              (go_roundw; (case rel => exact ⟨k + 1, v, _, _, by omega, by go_num, HW2⟩); (case measure => simp [intOf]; omega))
      · have i1 : ¬ (k : Int) < (n0 : Int) := by omega
        obtain rfl : k = n0 := by omega
        cases b with
        | true =>
          go_wp2_with (first | (go_at_call 12; refine (pbytes_bad HW.out.ww).mono ?_; rintro e w' ⟨rfl, hw⟩; replace hw := hw.symm; subst hw) | (go_at_call 10; refine (wakes_any _).mono ?_; rintro e w9 ⟨rfl, hg⟩; have G9 := hide (grown_trans HW.out.gr hg); clear hg))
          go_ret
          exact ⟨rfl, G9.out⟩
        | false =>
          have HX := hide (show xs.length ≤ 131072 by have := HW.out.le; omega)
          have HM := hide (show xs.length ≤ 1000000 by have := HW.out.le; omega)
          have HI := hide (HW.out.is rfl)
          have hsx := bs_size xs
          have lx : (xs.length : Int) ≤ 131072 := by have := HX.out; omega
          go_wp2_with (first | (go_at_call 12; refine (pbytes_ok HW.out.ww HX.out).mono ?_; rintro e w' ⟨rfl, hw⟩; replace hw := hw.symm; subst hw) | (go_at_call 14; refine (read_new _ xs HM.out).mono ?_; rintro e w3 ⟨rfl, h1, h2⟩; have H3 := hide (show Rk w w3 wr.heap.size xs f0 0 [] from ⟨h1, grown_trans HW.out.gr h2, HW.out.gr.size, rfl⟩); generalize wr.heap.size = Q at H3 ⊢; clear h1 h2))
          go_loopw [8] (fun i W => ∃ (j : Nat) (a : List UInt8), j ≤ k ∧ i = .int .i64 j ∧ Ri.Hid (Rk w W Q xs f0 j a)) (fun i _ => k - (intOf i).toNat)
          case atStart => exact ⟨0, [], Nat.zero_le _, rfl, H3⟩
          case round =>
            clear H3
            obtain ⟨j, a, hj, rfl, HR⟩ := hrel
            by_cases hlt2 : j < k
            · have i2 : (j : Int) < (k : Int) := by omega
              obtain ⟨ad, rfl⟩ : ∃ ad, o0 = some ad := by
                cases o0 with
                | none => have := HS.out.none rfl; omega
                | some ad => exact ⟨ad, rfl⟩
              obtain ⟨A0, hA⟩ : ∃ A, ad.add (j * 3) = A := ⟨_, rfl⟩
              obtain ⟨s0', s1', s2'⟩ := HS.out.at' ad rfl j hlt2
              rw [hA] at s0' s1' s2'
              rw [Addr.add_zero'] at s0'
              rw [Addr.add_succ'] at s1' s2'
              simp only [Nat.zero_add, Nat.reduceAdd] at s1' s2'
              obtain ⟨q0, q1, q2⟩ := HS.out.ok j hlt2
              have HEI := hide (show encI (f0 j) = encI ⟨(f0 j).k, (f0 j).n, (f0 j).t⟩ from rfl)
              obtain ⟨ik, hik⟩ : ∃ x, (f0 j).k = x := ⟨_, rfl⟩
              obtain ⟨im, him⟩ : ∃ x, (f0 j).n = x := ⟨_, rfl⟩
              obtain ⟨it, hit⟩ : ∃ x, (f0 j).t = x := ⟨_, rfl⟩
              rw [hik] at s0' q0
              rw [him] at s1' q1
              rw [hit] at s2' q2
              rw [hik, him, hit] at HEI
              have hbd : -9223372036854775808 ≤ im ∧ im ≤ 9223372036854775807 := by
                have e0 : IntKind.i64.min = -9223372036854775808 := by decide
                have e1 : IntKind.i64.max = 9223372036854775807 := by decide
                simp [Lit.wf, e0, e1] at q1
                omega
              have HB := hide hbd
              have HK1 := hide (fun W (h : w.grownBy W none) => h.cell s1' (by simp))
              have HK2 := hide (fun W (h : w.grownBy W none) => h.cell s2' (by simp))
              have x0 := HR.out.gr.cell s0' (by simp)
              have x1 := HK1.out _ HR.out.gr
              have x2 := HK2.out _ HR.out.gr
              clear s0' s1' s2' hik him hit q0 q1 q2 hbd
              obtain ⟨e, r, he, hd, hek⟩ := encK_at HI.out hlt2 HR.out.is
              rw [HEI.out] at he
              have HD := hide (HR.out.kept (drew_g wr))
              by_cases k0 : ik = 0
              · as_aux_lemma =>
                  subst k0
                  obtain rfl : [lo8 im] = e := Option.some.inj he
                  have HP := hide (rd_byte hd)
                  have HPl := hide (show a.length + 1 = a.length + [lo8 im].length from rfl)
                  have hand := and255 im HB.out.1 HB.out.2
                  obtain ⟨Y, hY⟩ : ∃ Y, im % 256 = Y := ⟨_, rfl⟩
                  rw [hY] at HP hand
                  clear hY
                  have HKp := HK1
                  have HEk := hide hek
                  clear he hd hek
                  have hne : (Y != Y) = false := by simp
                  go_upto_region 27 with fail
                  go_region_held3 (fun W => W.cell? ⟨A0.block, A0.off + 1, none⟩ = some (.int .i64 im)) (first | exact x1 | exact y1) ((go_at_call 20; refine (HP.out _ _ HD.out.rd).mono ?_; rintro e w2 ⟨rfl, h1, h2⟩; have HR2 := hide (HD.out.next HPl.out h1 h2 HEk.out); have y1 := HKp.out _ HR2.out.gr; clear h1 h2))
                  all_goals go_wp2
                  all_goals (go_roundw; (case rel => exact ⟨j + 1, _, by omega, by go_num, HR2⟩); (case measure => simp [intOf]; omega))
              by_cases k1 : ik = 1
              · as_aux_lemma =>
                  subst k1
                  have he : numO im = some e := he
                  have HP := hide (rd_num he hd)
                  have HPl := hide (show a.length + e.length = a.length + e.length from rfl)
                  have HKp := HK1
                  have HEk := hide hek
                  clear he hd hek
                  have hne : (im != im) = false := by simp
                  go_upto_region 30 with fail
                  go_region_held3 (fun W => W.cell? ⟨A0.block, A0.off + 1, none⟩ = some (.int .i64 im)) (first | exact x1 | exact y1) ((go_at_call 21; refine (HP.out _ _ HD.out.rd).mono ?_; rintro e w2 ⟨rfl, h1, h2⟩; have HR2 := hide (HD.out.next HPl.out h1 h2 HEk.out); have y1 := HKp.out _ HR2.out.gr; clear h1 h2))
                  all_goals go_wp2
                  all_goals (go_roundw; (case rel => exact ⟨j + 1, _, by omega, by go_num, HR2⟩); (case measure => simp [intOf]; omega))
              by_cases k2 : ik = 2
              · as_aux_lemma =>
                  subst k2
                  obtain rfl : wordL (im % 4294967296) = e := Option.some.inj he
                  have y0 : 0 ≤ im % 4294967296 ∧ im % 4294967296 < 4294967296 := by omega
                  have HP := hide (rd_word y0.1 y0.2 hd)
                  have HPl := hide (show a.length + 4 = a.length + (wordL (im % 4294967296)).length from rfl)
                  obtain ⟨X, hX⟩ : ∃ X, im % 4294967296 = X := ⟨_, rfl⟩
                  rw [hX] at HP HPl hek y0
                  have HKp := HK1
                  have HEk := hide hek
                  clear he hd hek
                  have hne : (X != im % 4294967296) = false := by rw [hX]; simp
                  have hne2 : (X != X) = false := by simp
                  have hwr : IntKind.u32.wrap im = X := by rw [IntKind.wrap_u32, hX]
                  have HXX := hide hX
                  clear hX
                  go_upto_region 33 with fail
                  go_region_held3 (fun W => W.cell? ⟨A0.block, A0.off + 1, none⟩ = some (.int .i64 im)) (first | exact x1 | exact y1) ((go_at_call 22; refine (HP.out _ _ HD.out.rd).mono ?_; rintro e w2 ⟨rfl, h1, h2⟩; have HR2 := hide (HD.out.next HPl.out h1 h2 HEk.out); have y1 := HKp.out _ HR2.out.gr; clear h1 h2))
                  all_goals go_wp2
                  all_goals (go_roundw; (case rel => exact ⟨j + 1, _, by omega, by go_num, HR2⟩); (case measure => simp [intOf]; omega))
              by_cases k3 : ik = 3
              · as_aux_lemma =>
                  subst k3
                  have he : textO it = some e := he
                  have HP := hide (rd_text he hd)
                  have HPl := hide (show a.length + e.length = a.length + e.length from rfl)
                  have HKp := HK2
                  have HEk := hide hek
                  clear he hd hek
                  have hne : ((bs it).toList != (bs it).toList) = false := by simp
                  go_upto_region 36 with fail
                  go_region_held3 (fun W => W.cell? ⟨A0.block, A0.off + 2, none⟩ = some (.string (bs it))) (first | exact x2 | exact y1) ((go_at_call 23; refine (HP.out _ _ HD.out.rd).mono ?_; rintro e w2 ⟨rfl, h1, h2⟩; have HR2 := hide (HD.out.next HPl.out h1 h2 HEk.out); have y1 := HKp.out _ HR2.out.gr; clear h1 h2))
                  all_goals go_wp2
                  all_goals (go_roundw; (case rel => exact ⟨j + 1, _, by omega, by go_num, HR2⟩); (case measure => simp [intOf]; omega))
              · as_aux_lemma =>
                  have hen : encI ⟨ik, im, it⟩ = some [] := by simp [encI, k0, k1, k2, k3]
                  obtain rfl : [] = e := Option.some.inj (hen.symm.trans he)
                  rw [List.append_nil] at hek
                  have HR2 := hide (show Rk w wr Q xs f0 (j + 1) a from ⟨HR.out.rd, HR.out.gr, HR.out.lq, hek⟩)
                  have t0 : (ik == 0) = false := by simpa using k0
                  have t1 : (ik == 1) = false := by simpa using k1
                  have t2 : (ik == 2) = false := by simpa using k2
                  have t3 : (ik == 3) = false := by simpa using k3
                  clear he hd hek hen
                  go_wp2
                  (go_roundw; (case rel => exact ⟨j + 1, _, by omega, by go_num, HR2⟩); (case measure => simp [intOf]; omega))
            · have i2 : ¬ (j : Int) < (k : Int) := by omega
              obtain rfl : j = k := by omega
              have hxa : a = xs := Option.some.inj (HR.out.is.symm.trans HI.out)
              subst hxa
              have HEb := hide (show endB a a.length false = true by simp [endB])
              have hql : ((a.length : Int) == a.length) = true := by simp
              go_wp2_with (first | (go_at_call 24; refine (pend_at HR.out.rd).mono ?_; rw [HEb.out]; rintro e w' ⟨rfl, hw⟩; replace hw := hw.symm; subst hw) | (go_at_call 25; refine (pbad_at HR.out.rd).mono ?_; rintro e w' ⟨rfl, hw⟩; replace hw := hw.symm; subst hw) | (go_at_call 26; refine (pat_at HR.out.rd).mono ?_; rintro e w' ⟨rfl, hw⟩; replace hw := hw.symm; subst hw) | (go_at_call 10; refine (wakes_any _).mono ?_; rintro e w9 ⟨rfl, hg⟩; have G9 := hide (grown_trans HR.out.gr hg); clear hg))
              go_ret
              exact ⟨rfl, G9.out⟩

set_option maxRecDepth 100000 in
theorem lifted (os : Os) (started : os.Started) (H : Type) (enc : TypeId × Value → H) :
    ReturnsInHanded {} Try.checked os 5 .any (Rows.riderBackSpec.pre6 enc Try.prog Try.f5 Rows.riderBackRow.domain false) (Rows.riderBackSpec.post enc Try.prog Try.f5 false true false false) := by
  refine returnsInHanded_of_change (C := Try.checked) own started (by kernel_rfl) Try.func5
    (ChangeSpec.witness6 (enc := enc) (C := Try.checked) false ⟨#[], #[.slice none 0 0], []⟩ 8 (by kernel_rfl) (by kernel_rfl) (by kernel_rfl) (by kernel_rfl)) ?_
  intro W base args ds gs before hval0 hW hcnd _
  have hval : ∀ (j : Nat) t v, Try.f5.params[j]? = some t → args[j]? = some v → Value.okWide Try.prog W .any base t v := hval0
  have hW' := hW
  obtain ⟨p, q, hA0, hV, rfl, hfz, hnd⟩ := hW
  have hA : DataW.TrodAll enc Try.prog W 0 (fun _ => true) true Try.f5.params.toList args.toList ds p := hA0
  rw [Try.params5] at hA hval
  obtain ⟨v0, vs0, d0, ds0, p0, q0, hargs, rfl, rfl, h0, r0⟩ := trodAll_cons hA
  obtain ⟨rfl, rfl, rfl⟩ := trodAll_nil r0
  obtain rfl : args = #[v0] := by cases args; simp_all
  obtain ⟨rfl, rfl⟩ := trodVars_none hV
  have k0 := h0
  have lt0 : ∀ x ∈ p0, x.block < W.heap.size := by obtain ⟨m, hm⟩ := k0; exact DataW.trod_lt m _ _ _ hm
  obtain ⟨o0, n0, c0, rfl⟩ := okWide_slice Try.underlying22 (hval 0 22 v0 rfl rfl)
  obtain ⟨f0, S0⟩ := open_items h0
  clear hA0 hval0
  refine (walk W o0 n0 c0 f0 S0).mono fun e W' ⟨he, hg⟩ => ?_
  subst he
  have bel : Below W.heap.size W W' := ⟨hg.os, hg.tape, hg.output, hg.size, fun k hk => hg.block k hk (by simp)⟩
  exact ⟨_, rfl, _, _, _, [], _, [], hW', trodAll_mk1 (shut_bool Try.underlying4 _), (trodAll_cons_mk (Below.trod laidOut (by kernel_rfl) (of_decide_eq_true (by kernel_rfl)) k0 bel lt0) trodAll_mk0), rfl, bel.frame _, fun h => by cases h⟩

theorem proved : Rows.RiderBackSaid :=
  OpenClaim.holds_of_wide 5 Try.f5 rfl rfl rfl rfl rfl rfl rfl ⟨rfl, rfl, rfl, rfl, rfl⟩ rfl rfl rfl rfl rfl (by kernel_rfl) Try.func5 (by kernel_rfl)
    (of_decide_eq_true (by kernel_rfl)) (by unfold Func.isWrapper; first | (rw [if_pos (by decide +kernel)]; kernel_rfl) | (rw [if_neg (by decide +kernel)]; exact ⟨rfl, rfl⟩))
    (fun os started H enc _ => lifted os started H enc)
end Go.Proofs.Ytolfhkcfepkfdaa.riderBack

namespace Go.Proofs.Ytolfhkcfepkfdaa
theorem riderBack_holds : Rows.RiderBackSaid := riderBack.proved
#print axioms riderBack_holds
end Go.Proofs.Ytolfhkcfepkfdaa
