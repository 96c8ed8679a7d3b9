/-
  Package consts: ones.
-/
import Derived.Test.YtgdpcdpkaaefbaaCn10
import Derived.Test.YtgdpcdpkaaefbaaMc4
namespace Go.Proofs.Ytgdpcdpkaaefbaa.Cn
open Go.RowKit hiding Hid
open Go.Maps Go.Proofs.Ytgdpcdpkaaefbaa.Tx Go.Proofs.Ytgdpcdpkaaefbaa.Lx Go.Proofs.Ytgdpcdpkaaefbaa.Mp Go.Proofs.Ytgdpcdpkaaefbaa.Bits Go.Proofs.Ytgdpcdpkaaefbaa.Tr
set_option linter.unusedVariables false
set_option linter.unusedSimpArgs false
set_option maxRecDepth 100000

def onesE : List (Ky × Cd) := [(((1, 0, [43]) : Ky), Cd.pos), (((1, 0, [45]) : Ky), Cd.neg), (((4, 0, [45]) : Ky), Cd.cpl), (((2, 0, [126]) : Ky), Cd.not)]
def onesS : List (Nat × Sp) := [(2, .ky ((1, 0, [43]) : Ky)), (3, .cl 91 54), (4, .ky ((1, 0, [45]) : Ky)), (5, .cl 91 55), (6, .ky ((4, 0, [45]) : Ky)), (7, .cl 93 57), (8, .ky ((2, 0, [126]) : Ky)), (9, .cl 95 59)]
set_option maxHeartbeats 6400000 in
theorem ones_at (w : World) : Calls Try.prog 26 #[] w fun e w' => ∃ mb, e = .returned (.map (some mb)) ∧ w.grownBy w' none ∧ MapK w' mb onesE := by
  go_enter Try.func26, Try.ntmps26
  go_wp2
  refine wp_region_any (by kernel_rfl) ?_
  refine Mc.map_any (w0 := w) (T := 54) (Φ := phi onesS) (N := 11) (a0 := _) LKk Try.underlying54 (by kernel_rfl) (phi_g _) (phi_m _) ?_ ?_ ?_ ⟨0, _, rfl, rfl⟩ ⟨14, _, _, rfl, rfl⟩ _ _ _ _ [] (Mc.inv0 rfl) (by decide) (by simp)
  · intro i o d ho hr a w1 K' hg h
    have hm := Mc.vls_mem ho hr
    rw [show Mc.vls _ = [(1, 2), (2, 3), (4, 4), (5, 5), (7, 6), (8, 7), (10, 8), (11, 9)] by kernel_rfl] at hm
    simp only [List.mem_cons, Prod.mk.injEq, List.not_mem_nil, or_false] at hm
    rcases hm with ⟨rfl, rfl⟩ | ⟨rfl, rfl⟩ | ⟨rfl, rfl⟩ | ⟨rfl, rfl⟩ | ⟨rfl, rfl⟩ | ⟨rfl, rfl⟩ | ⟨rfl, rfl⟩ | ⟨rfl, rfl⟩
    · (injection ho with ho; subst ho; refine op_bld (x := ((1, 0, [43]) : Ky)) rfl (by kernel_rfl) (fun v w' hg hv => h v w' hg ?_); exact ⟨hv, kok_of _ (by decide)⟩)
    · (injection ho with ho; subst ho; refine op_ofInts 54 rfl rfl (fun v w' hg hv => h v w' hg hv))
    · (injection ho with ho; subst ho; refine op_bld (x := ((1, 0, [45]) : Ky)) rfl (by kernel_rfl) (fun v w' hg hv => h v w' hg ?_); exact ⟨hv, kok_of _ (by decide)⟩)
    · (injection ho with ho; subst ho; refine op_ofInts 55 rfl rfl (fun v w' hg hv => h v w' hg hv))
    · (injection ho with ho; subst ho; refine op_bld (x := ((4, 0, [45]) : Ky)) rfl (by kernel_rfl) (fun v w' hg hv => h v w' hg ?_); exact ⟨hv, kok_of _ (by decide)⟩)
    · (injection ho with ho; subst ho; refine op_ofSets 57 rfl rfl (fun v w' hg hv => h v w' hg hv))
    · (injection ho with ho; subst ho; refine op_bld (x := ((2, 0, [126]) : Ky)) rfl (by kernel_rfl) (fun v w' hg hv => h v w' hg ?_); exact ⟨hv, kok_of _ (by decide)⟩)
    · (injection ho with ho; subst ho; refine op_tells 59 rfl rfl (fun v w' hg hv => h v w' hg hv))
  · intro i o kd v ho hr u w1 hp
    have hm := Mc.ents_mem.2 ⟨i, o, ho, hr⟩
    rw [show Mc.ents _ = [(2, .tmp 3), (4, .tmp 5), (6, .tmp 7), (8, .tmp 9)] by kernel_rfl] at hm
    simp only [List.mem_cons, Prod.mk.injEq, List.not_mem_nil, or_false] at hm
    rcases hm with ⟨rfl, rfl⟩ | ⟨rfl, rfl⟩ | ⟨rfl, rfl⟩ | ⟨rfl, rfl⟩ <;> (obtain ⟨h1, h2⟩ : _ ∧ _ := hp; rw [h1]; exact isK_ky h2)
  · intro a w1 mb l hdf hsz h0 hg hmb hml hll h1 h2 h3
    have f2 : a.tmps.getD 2 undef = kyV ((1, 0, [43]) : Ky) := (show _ ∧ _ from h3 1 _ 2 rfl rfl).1
    obtain ⟨b0, g3, c0⟩ : ∃ b, a.tmps.getD 3 undef = clV 91 b ∧ w1.cell? ⟨b, 0, none⟩ = some (fnV 54) := h3 2 _ 3 rfl rfl
    have f4 : a.tmps.getD 4 undef = kyV ((1, 0, [45]) : Ky) := (show _ ∧ _ from h3 4 _ 4 rfl rfl).1
    obtain ⟨b1, g5, c1⟩ : ∃ b, a.tmps.getD 5 undef = clV 91 b ∧ w1.cell? ⟨b, 0, none⟩ = some (fnV 55) := h3 5 _ 5 rfl rfl
    have f6 : a.tmps.getD 6 undef = kyV ((4, 0, [45]) : Ky) := (show _ ∧ _ from h3 7 _ 6 rfl rfl).1
    obtain ⟨b2, g7, c2⟩ : ∃ b, a.tmps.getD 7 undef = clV 93 b ∧ w1.cell? ⟨b, 0, none⟩ = some (fnV 57) := h3 8 _ 7 rfl rfl
    have f8 : a.tmps.getD 8 undef = kyV ((2, 0, [126]) : Ky) := (show _ ∧ _ from h3 10 _ 8 rfl rfl).1
    obtain ⟨b3, g9, c3⟩ : ∃ b, a.tmps.getD 9 undef = clV 95 b ∧ w1.cell? ⟨b, 0, none⟩ = some (fnV 59) := h3 11 _ 9 rfl rfl
    have HM : MapK w1 mb onesE := by
      refine ⟨[(((1, 0, [43]) : Ky), Cd.pos, clV 91 b0), (((1, 0, [45]) : Ky), Cd.neg, clV 91 b1), (((4, 0, [45]) : Ky), Cd.cpl, clV 93 b2), (((2, 0, [126]) : Ky), Cd.not, clV 95 b3)], rfl, ?_, l, by simp only [List.length_cons, List.length_nil]; omega, hml, fun p => ⟨fun hp => ?_, fun hp => ?_⟩⟩
      · intro z hz
        simp only [List.mem_cons, List.not_mem_nil, or_false] at hz
        rcases hz with rfl | rfl | rfl | rfl
        · exact ⟨b0, rfl, c0⟩
        · exact ⟨b1, rfl, c1⟩
        · exact ⟨b2, rfl, c2⟩
        · exact ⟨b3, rfl, c3⟩
      · obtain ⟨i, o, kd, v, ho, hr, rfl⟩ := h1 p hp
        have hm := Mc.ents_mem.2 ⟨i, o, ho, hr⟩
        rw [show Mc.ents _ = [(2, .tmp 3), (4, .tmp 5), (6, .tmp 7), (8, .tmp 9)] by kernel_rfl] at hm
        simp only [List.mem_cons, Prod.mk.injEq, List.not_mem_nil, or_false] at hm
        rcases hm with ⟨rfl, rfl⟩ | ⟨rfl, rfl⟩ | ⟨rfl, rfl⟩ | ⟨rfl, rfl⟩
        · exact ⟨(((1, 0, [43]) : Ky), Cd.pos, clV 91 b0), by simp only [List.mem_cons, true_or, or_true], by show (a.tmps.getD 2 undef, a.tmps.getD 3 undef) = _; rw [f2, g3]⟩
        · exact ⟨(((1, 0, [45]) : Ky), Cd.neg, clV 91 b1), by simp only [List.mem_cons, true_or, or_true], by show (a.tmps.getD 4 undef, a.tmps.getD 5 undef) = _; rw [f4, g5]⟩
        · exact ⟨(((4, 0, [45]) : Ky), Cd.cpl, clV 93 b2), by simp only [List.mem_cons, true_or, or_true], by show (a.tmps.getD 6 undef, a.tmps.getD 7 undef) = _; rw [f6, g7]⟩
        · exact ⟨(((2, 0, [126]) : Ky), Cd.not, clV 95 b3), by simp only [List.mem_cons, true_or, or_true], by show (a.tmps.getD 8 undef, a.tmps.getD 9 undef) = _; rw [f8, g9]⟩
      · obtain ⟨q, hq, rfl⟩ := hp
        simp only [List.mem_cons, List.not_mem_nil, or_false] at hq
        rcases hq with rfl | rfl | rfl | rfl
        · have := h2 3 _ 2 (.tmp 3) rfl rfl; rw [show a.eval (.tmp 3) = a.tmps.getD 3 undef from rfl, f2, g3] at this; exact this
        · have := h2 6 _ 4 (.tmp 5) rfl rfl; rw [show a.eval (.tmp 5) = a.tmps.getD 5 undef from rfl, f4, g5] at this; exact this
        · have := h2 9 _ 6 (.tmp 7) rfl rfl; rw [show a.eval (.tmp 7) = a.tmps.getD 7 undef from rfl, f6, g7] at this; exact this
        · have := h2 12 _ 8 (.tmp 9) rfl rfl; rw [show a.eval (.tmp 9) = a.tmps.getD 9 undef from rfl, f8, g9] at this; exact this
    have h0' : a.tmps[0]?.getD undef = .map (some mb) := by rw [← Array.getD_eq_getD_getElem?]; exact h0
    go_wp2
    refine bodyPost_ret (v := .map (some mb)) (by simp [results, Try.results26, go_sem, h0']) hdf ?_
    exact ⟨mb, rfl, hg, HM⟩
end Go.Proofs.Ytgdpcdpkaaefbaa.Cn
