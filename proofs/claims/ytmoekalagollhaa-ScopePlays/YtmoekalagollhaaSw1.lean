/-
  Scope's laws: names made up, rows of texts that are alike, wakes.
-/
import Derived.Test.YtmoekalagollhaaSr3
import Derived.Lib.ConvBytes
namespace Go.Proofs.Ytmoekalagollhaa.So
open Go.RowKit hiding Hid
open Go.Proofs.Ytmoekalagollhaa.Tx Go.Proofs.Ytmoekalagollhaa.Lx Go.Proofs.Ytmoekalagollhaa.Tr Go.Proofs.Ytmoekalagollhaa.Ty
set_option linter.unusedVariables false
set_option linter.unusedSimpArgs false
set_option maxRecDepth 100000

theorem own_nil {w : World} {B : Nat} {e : TypeId} {n c : Nat} {xs : List Value} (h : w.ownsRow B e 1 (.slice none n c) n xs) : n = 0 := by
  obtain ⟨h1, ⟨e1, h0⟩ | ⟨g, cap, cur, e1, _⟩⟩ := h
  · exact h0
  · cases e1
set_option maxHeartbeats 4000000 in
theorem texts_at {w0 w : World} {L : List Lc} {Rs : List Rw} {Fs : List Fk} (H : Cf w0 (fun _ => False) none L Rs Fs w) {d1 d2 : Option Addr} {l : Lv1} {c1 c2 : Nat} (h1 : ⟨.slice d1 l.length c1, 9, 1, l.length, nmC l⟩ ∈ Rs) (h2 : ⟨.slice d2 l.length c2, 9, 1, l.length, nmC l⟩ ∈ Rs) (hl : l.length ≤ 256) : Calls Try.prog 38 #[.slice d1 l.length c1, .slice d2 l.length c2] w (fun e w' => e = .returned (.bool true) ∧ w.grownBy w' none) := by
  have HR1 := hide h1
  have HR2 := hide h2
  have HC := hide H
  have HW := hide (gr_ref w none)
  have k0 : (l.length : Int) ≤ 256 := by omega
  clear H h1 h2
  go_enter Try.func38, Try.ntmps38
  go_wp2
  have HC1 := HC
  have HW1 := HW
  clear HC HW
  go_loopw [5] (fun iv W => ∃ i : Nat, i ≤ l.length ∧ iv = .int .i64 i ∧ Hid (w.grownBy W none) ∧ Hid (Cf w0 (fun _ => False) none L Rs Fs W)) (fun iv _ => l.length - (intOf iv).toNat)
  case atStart => exact ⟨0, Nat.zero_le _, rfl, HW1, HC1⟩
  case round =>
    clear HC1 HW1
    obtain ⟨i, hi, rfl, HW, HC⟩ := hrel
    by_cases hlt : i < l.length
    · have q1 : (i : Int) < l.length := by omega
      obtain ⟨p, hp⟩ : ∃ p, l[i]? = some p := ⟨l[i], List.getElem?_eq_getElem hlt⟩
      obtain ⟨g1, rfl, hd1, hd2⟩ := own_at (HC.out.cx.row _ HR1.out) (by omega)
      obtain ⟨g2, rfl, hd3, hd4⟩ := own_at (HC.out.cx.row _ HR2.out) (by omega)
      have HXn := hide (show (nmC l)[i]? = some (.string (bs p.1)) by unfold nmC; rw [List.getElem?_map, hp]; rfl)
      have k1 : (c1 : Int) ≤ 9223372036854775807 := by unfold maxLen at hd2; omega
      have k2 : (c2 : Int) ≤ 9223372036854775807 := by unfold maxLen at hd4; omega
      clear hp hd1 hd2 hd3 hd4
      go_upto_region 6 with (fail)
      replace HW := hide (gr_then HW.out (d1_g _))
      replace HC := hide (HC.out.g (d1_g _)); refine wp_region_inN (fun W => W.cell? ⟨g1, i, none⟩ = some (.string (bs p.1)) ∧ W.cell? ⟨g2, i, none⟩ = some (.string (bs p.1))) [8] (Pn.of [(1, 0), (1, 1), (1, 2), (1, 3), (1, 4), (1, 5), (1, 6), (1, 7), (0, 8)] .nil) (by kernel_rfl) (by kernel_rfl) (by kernel_rfl) (by kernel_rfl) (fun _ _ d _ _ h => by cases d <;> exact h) ⟨HC.out.cell (ad := ⟨g1, 0, none⟩) HR1.out HXn.out, HC.out.cell (ad := ⟨g2, 0, none⟩) HR2.out HXn.out⟩ ?_
      (refine inN_read (v := ?_) rfl (Or.inl ⟨by rfl, ?_⟩) ?_; rotate_left 1; (focus (intro W hSW; clear hSW; go_simp; (try (with_reducible rfl)))); (try simp only [Act.put, List.getElem_toArray, List.getElem_cons_zero, List.getElem_cons_succ, List.setIfInBounds_toArray, List.set_cons_zero, List.set_cons_succ]))
      (refine inN_read (v := ?_) rfl (Or.inl ⟨by rfl, ?_⟩) ?_; rotate_left 1; (focus (intro W hSW; clear hSW; go_simp; (try (with_reducible rfl)))); (try simp only [Act.put, List.getElem_toArray, List.getElem_cons_zero, List.getElem_cons_succ, List.setIfInBounds_toArray, List.set_cons_zero, List.set_cons_succ]))
      (refine inN_read (v := ?_) rfl (Or.inl ⟨by rfl, ?_⟩) ?_; rotate_left 1; (focus (intro W hSW; clear hSW; go_simp; (try (with_reducible rfl)))); (try simp only [Act.put, List.getElem_toArray, List.getElem_cons_zero, List.getElem_cons_succ, List.setIfInBounds_toArray, List.set_cons_zero, List.set_cons_succ]))
      (refine inN_read rfl (yl_cell tcSTR rfl rfl rfl (fun W hS => hS.1)) ?_; (try simp only [Act.put, List.getElem_toArray, List.getElem_cons_zero, List.getElem_cons_succ, List.setIfInBounds_toArray, List.set_cons_zero, List.set_cons_succ]))
      (refine inN_read (v := ?_) rfl (Or.inl ⟨by rfl, ?_⟩) ?_; rotate_left 1; (focus (intro W hSW; clear hSW; go_simp; (try (with_reducible rfl)))); (try simp only [Act.put, List.getElem_toArray, List.getElem_cons_zero, List.getElem_cons_succ, List.setIfInBounds_toArray, List.set_cons_zero, List.set_cons_succ]))
      (refine inN_read (v := ?_) rfl (Or.inl ⟨by rfl, ?_⟩) ?_; rotate_left 1; (focus (intro W hSW; clear hSW; go_simp; (try (with_reducible rfl)))); (try simp only [Act.put, List.getElem_toArray, List.getElem_cons_zero, List.getElem_cons_succ, List.setIfInBounds_toArray, List.set_cons_zero, List.set_cons_succ]))
      (refine inN_read (v := ?_) rfl (Or.inl ⟨by rfl, ?_⟩) ?_; rotate_left 1; (focus (intro W hSW; clear hSW; go_simp; (try (with_reducible rfl)))); (try simp only [Act.put, List.getElem_toArray, List.getElem_cons_zero, List.getElem_cons_succ, List.setIfInBounds_toArray, List.set_cons_zero, List.set_cons_succ]))
      (refine inN_read rfl (yl_cell tcSTR rfl rfl rfl (fun W hS => hS.2)) ?_; (try simp only [Act.put, List.getElem_toArray, List.getElem_cons_zero, List.getElem_cons_succ, List.setIfInBounds_toArray, List.set_cons_zero, List.set_cons_succ]))
      (refine inN_pure (v := ?_) rfl (Or.inl ⟨by rfl, ?_⟩) ?_; rotate_left 1; (focus (intro W hSW; clear hSW; go_simp; (try (with_reducible rfl)))); (try simp only [Act.put, List.getElem_toArray, List.getElem_cons_zero, List.getElem_cons_succ, List.setIfInBounds_toArray, List.set_cons_zero, List.set_cons_succ]))
      refine inN_end ?_
      go_wp2
      exact ⟨⟨i + 1, by omega, by go_num, HW, HC⟩, by simp [intOf]; omega⟩
    · obtain rfl : i = l.length := by omega
      go_wp2
      go_ret
      exact ⟨rfl, HW.out⟩
theorem dx0 (n : Int) : decE [] [120] = 0 ∧ decL [] [120] n = [([120], n)] := ⟨by decide, by unfold decL; rw [show decE [] [120] = 0 by decide]; rfl⟩
theorem gd0 : Gd [[]] := fun l hl => by rw [List.mem_singleton] at hl; subst hl; exact gd_nil
theorem gd1 (n : Int) : GdL [([120], n)] := by have := decL_gd gd_nil [120] n; rw [(dx0 n).2] at this; exact this
set_option maxHeartbeats 8000000 in
theorem wakes_at (w : World) : Calls Try.prog 41 #[] w (fun e w' => e = .returned (.bool true) ∧ w.grownBy w' none) := by
  have HC := hide (Cf.of (Cx.start w (fun _ => False)))
  have M1 : Hid True := hide trivial
  have M2 : Hid True := hide trivial
  have M3 : Hid True := hide trivial
  have M4 : Hid True := hide trivial
  go_enter Try.func41, Try.ntmps41
  go_wp2_with (first | (go_at_call 25; refine (new_at HC.out).mono ?_; rintro e w1 ⟨b, mb, rfl, h⟩; have HP := hide h; clear h; clear HC) | (go_at_call 31; clear M1; refine (declare_at HP.out gd0 (by decide) [120] (by decide) 1).mono ?_; rw [(dx0 1).1, (dx0 1).2]; rintro e w2 ⟨rfl, h⟩; replace HP := hide h; clear h) | (go_at_call 27; refine (open_at HP.out (by decide)).mono ?_; rintro e w3 ⟨rfl, h⟩; replace HP := hide (show PS w b mb [[], [([120], 1)]] [] [] [] w3 from h); clear h) | (go_at_call 31; clear M2; refine (declare_at HP.out (gd_cons.2 ⟨gd_nil, gd_cons.2 ⟨gd1 1, fun l hl => by cases hl⟩⟩) (by decide) [120] (by decide) 2).mono ?_; rw [(dx0 2).1, (dx0 2).2]; rintro e w4 ⟨rfl, h⟩; replace HP := hide h; clear h) | (go_at_call 34; clear M3; refine (find_at HP.out (gd_cons.2 ⟨gd1 2, gd_cons.2 ⟨gd1 1, fun l hl => by cases hl⟩⟩) (by decide) [120] (by decide)).mono ?_; rw [show fndS [[([120], 2)], [([120], 1)]] [120] = some (2, 1) by decide]; rintro e w5 ⟨rfl, hw⟩; replace hw := hw.symm; subst hw; unfold fndV) | (go_at_call 29; refine (close_at HP.out (gd_cons.2 ⟨gd1 2, gd_cons.2 ⟨gd1 1, fun l hl => by cases hl⟩⟩) (by decide)).mono ?_; rintro e w6 ⟨rfl, h⟩; replace HP := hide (show PS w b mb [[([120], 1)]] [] [] [] w6 from h); clear h) | (go_at_call 34; clear M4; refine (find_at HP.out (gd_cons.2 ⟨gd1 1, fun l hl => by cases hl⟩) (by decide) [120] (by decide)).mono ?_; rw [show fndS [[([120], 1)]] [120] = some (1, 0) by decide]; rintro e w5 ⟨rfl, hw⟩; replace hw := hw.symm; subst hw; unfold fndV))
  go_ret
  obtain ⟨d, c, VM, _, h⟩ := HP.out
  exact ⟨rfl, h.cx.grown⟩
end Go.Proofs.Ytmoekalagollhaa.So
