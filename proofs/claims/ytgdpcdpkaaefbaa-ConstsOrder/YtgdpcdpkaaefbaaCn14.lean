/-
  Package consts: twos.
-/
import Derived.Test.YtgdpcdpkaaefbaaCn13
import Derived.Test.YtgdpcdpkaaefbaaMb4
namespace Go.Proofs.Ytgdpcdpkaaefbaa.Cn
open Go.RowKit hiding Hid
open Go.Maps Go.Proofs.Ytgdpcdpkaaefbaa.Tx Go.Proofs.Ytgdpcdpkaaefbaa.Lx Go.Proofs.Ytgdpcdpkaaefbaa.Mp Go.Proofs.Ytgdpcdpkaaefbaa.Bits Go.Proofs.Ytgdpcdpkaaefbaa.Tr
set_option linter.unusedVariables false
set_option linter.unusedSimpArgs false
set_option maxRecDepth 100000

def litE : List (Ky × Cd) := [(((1, 1, [43]) : Ky), Cd.add), (((1, 1, [45]) : Ky), Cd.sub), (((1, 1, [42]) : Ky), Cd.mul), (((1, 1, [68, 73, 86]) : Ky), Cd.quo), (((1, 1, [77, 79, 68]) : Ky), Cd.rem), (((4, 4, [43]) : Ky), Cd.sor), (((4, 4, [45]) : Ky), Cd.sdf), (((4, 4, [42]) : Ky), Cd.san), (((4, 4, [47]) : Ky), Cd.sxo), (((2, 2, [38]) : Ky), Cd.and), (((2, 2, [79, 82]) : Ky), Cd.or), (((1, 4, [73, 78]) : Ky), Cd.isin)]
def litS : List (Nat × Sp) := [(3, .ky ((1, 1, [43]) : Ky)), (4, .cl 91 62), (5, .ky ((1, 1, [45]) : Ky)), (6, .cl 91 63), (7, .ky ((1, 1, [42]) : Ky)), (8, .cl 91 64), (9, .ky ((1, 1, [68, 73, 86]) : Ky)), (10, .cl 98 66), (11, .ky ((1, 1, [77, 79, 68]) : Ky)), (12, .cl 98 67), (13, .ky ((4, 4, [43]) : Ky)), (14, .cl 93 68), (15, .ky ((4, 4, [45]) : Ky)), (16, .cl 93 69), (17, .ky ((4, 4, [42]) : Ky)), (18, .cl 93 70), (19, .ky ((4, 4, [47]) : Ky)), (20, .cl 93 71), (21, .ky ((2, 2, [38]) : Ky)), (22, .cl 95 72), (23, .ky ((2, 2, [79, 82]) : Ky)), (24, .cl 95 73), (25, .ky ((1, 4, [73, 78]) : Ky))]
set_option maxHeartbeats 6400000 in
theorem twos_at (w : World) : Calls Try.prog 35 #[] w fun e w' => ∃ mb, e = .returned (.map (some mb)) ∧ w.grownBy w' none ∧ MapK w' mb (litE ++ relE) := by
  go_enter Try.func35, Try.ntmps35
  go_wp2
  refine wp_region_any (by kernel_rfl) ?_
  refine Mb.map_any (w0 := w) (T := 54) (Φ := phi litS) (N := 30) (a0 := _) LKk Try.underlying54 (by kernel_rfl) (phi_g _) (phi_m _) ?_ ?_ ?_ ⟨0, _, rfl, rfl⟩ ⟨37, _, _, rfl, rfl⟩ _ _ _ _ [] (Mb.inv0 rfl) (by decide) (by simp)
  · intro i o d ho hr a w1 K' hg h
    have hm := Mb.vls_mem ho hr
    rw [show Mb.vls _ = [(1, 3), (2, 4), (4, 5), (5, 6), (7, 7), (8, 8), (10, 9), (11, 10), (13, 11), (14, 12), (16, 13), (17, 14), (19, 15), (20, 16), (22, 17), (23, 18), (25, 19), (26, 20), (28, 21), (29, 22), (31, 23), (32, 24), (34, 25)] by kernel_rfl] at hm
    simp only [List.mem_cons, Prod.mk.injEq, List.not_mem_nil, or_false] at hm
    rcases hm with ⟨rfl, rfl⟩ | ⟨rfl, rfl⟩ | ⟨rfl, rfl⟩ | ⟨rfl, rfl⟩ | ⟨rfl, rfl⟩ | ⟨rfl, rfl⟩ | ⟨rfl, rfl⟩ | ⟨rfl, rfl⟩ | ⟨rfl, rfl⟩ | ⟨rfl, rfl⟩ | ⟨rfl, rfl⟩ | ⟨rfl, rfl⟩ | ⟨rfl, rfl⟩ | ⟨rfl, rfl⟩ | ⟨rfl, rfl⟩ | ⟨rfl, rfl⟩ | ⟨rfl, rfl⟩ | ⟨rfl, rfl⟩ | ⟨rfl, rfl⟩ | ⟨rfl, rfl⟩ | ⟨rfl, rfl⟩ | ⟨rfl, rfl⟩ | ⟨rfl, rfl⟩
    · (injection ho with ho; subst ho; refine op_bld (x := ((1, 1, [43]) : Ky)) rfl (by kernel_rfl) (fun v w' hg hv => h v w' hg ?_); exact ⟨hv, kok_of _ (by decide)⟩)
    · (injection ho with ho; subst ho; refine op_ofInts 62 rfl rfl (fun v w' hg hv => h v w' hg hv))
    · (injection ho with ho; subst ho; refine op_bld (x := ((1, 1, [45]) : Ky)) rfl (by kernel_rfl) (fun v w' hg hv => h v w' hg ?_); exact ⟨hv, kok_of _ (by decide)⟩)
    · (injection ho with ho; subst ho; refine op_ofInts 63 rfl rfl (fun v w' hg hv => h v w' hg hv))
    · (injection ho with ho; subst ho; refine op_bld (x := ((1, 1, [42]) : Ky)) rfl (by kernel_rfl) (fun v w' hg hv => h v w' hg ?_); exact ⟨hv, kok_of _ (by decide)⟩)
    · (injection ho with ho; subst ho; refine op_ofInts 64 rfl rfl (fun v w' hg hv => h v w' hg hv))
    · (injection ho with ho; subst ho; refine op_bld (x := ((1, 1, [68, 73, 86]) : Ky)) rfl (by kernel_rfl) (fun v w' hg hv => h v w' hg ?_); exact ⟨hv, kok_of _ (by decide)⟩)
    · (injection ho with ho; subst ho; refine op_division 66 rfl rfl (fun v w' hg hv => h v w' hg hv))
    · (injection ho with ho; subst ho; refine op_bld (x := ((1, 1, [77, 79, 68]) : Ky)) rfl (by kernel_rfl) (fun v w' hg hv => h v w' hg ?_); exact ⟨hv, kok_of _ (by decide)⟩)
    · (injection ho with ho; subst ho; refine op_division 67 rfl rfl (fun v w' hg hv => h v w' hg hv))
    · (injection ho with ho; subst ho; refine op_bld (x := ((4, 4, [43]) : Ky)) rfl (by kernel_rfl) (fun v w' hg hv => h v w' hg ?_); exact ⟨hv, kok_of _ (by decide)⟩)
    · (injection ho with ho; subst ho; refine op_ofSets 68 rfl rfl (fun v w' hg hv => h v w' hg hv))
    · (injection ho with ho; subst ho; refine op_bld (x := ((4, 4, [45]) : Ky)) rfl (by kernel_rfl) (fun v w' hg hv => h v w' hg ?_); exact ⟨hv, kok_of _ (by decide)⟩)
    · (injection ho with ho; subst ho; refine op_ofSets 69 rfl rfl (fun v w' hg hv => h v w' hg hv))
    · (injection ho with ho; subst ho; refine op_bld (x := ((4, 4, [42]) : Ky)) rfl (by kernel_rfl) (fun v w' hg hv => h v w' hg ?_); exact ⟨hv, kok_of _ (by decide)⟩)
    · (injection ho with ho; subst ho; refine op_ofSets 70 rfl rfl (fun v w' hg hv => h v w' hg hv))
    · (injection ho with ho; subst ho; refine op_bld (x := ((4, 4, [47]) : Ky)) rfl (by kernel_rfl) (fun v w' hg hv => h v w' hg ?_); exact ⟨hv, kok_of _ (by decide)⟩)
    · (injection ho with ho; subst ho; refine op_ofSets 71 rfl rfl (fun v w' hg hv => h v w' hg hv))
    · (injection ho with ho; subst ho; refine op_bld (x := ((2, 2, [38]) : Ky)) rfl (by kernel_rfl) (fun v w' hg hv => h v w' hg ?_); exact ⟨hv, kok_of _ (by decide)⟩)
    · (injection ho with ho; subst ho; refine op_tells 72 rfl rfl (fun v w' hg hv => h v w' hg hv))
    · (injection ho with ho; subst ho; refine op_bld (x := ((2, 2, [79, 82]) : Ky)) rfl (by kernel_rfl) (fun v w' hg hv => h v w' hg ?_); exact ⟨hv, kok_of _ (by decide)⟩)
    · (injection ho with ho; subst ho; refine op_tells 73 rfl rfl (fun v w' hg hv => h v w' hg hv))
    · (injection ho with ho; subst ho; refine op_bld (x := ((1, 4, [73, 78]) : Ky)) rfl (by kernel_rfl) (fun v w' hg hv => h v w' hg ?_); exact ⟨hv, kok_of _ (by decide)⟩)
  · intro i o kd v ho hr u w1 hp
    have hm := Mb.ents_mem.2 ⟨i, o, ho, hr⟩
    rw [show Mb.ents _ = [(3, .tmp 4), (5, .tmp 6), (7, .tmp 8), (9, .tmp 10), (11, .tmp 12), (13, .tmp 14), (15, .tmp 16), (17, .tmp 18), (19, .tmp 20), (21, .tmp 22), (23, .tmp 24), (25, .func 74)] by kernel_rfl] at hm
    simp only [List.mem_cons, Prod.mk.injEq, List.not_mem_nil, or_false] at hm
    rcases hm with ⟨rfl, rfl⟩ | ⟨rfl, rfl⟩ | ⟨rfl, rfl⟩ | ⟨rfl, rfl⟩ | ⟨rfl, rfl⟩ | ⟨rfl, rfl⟩ | ⟨rfl, rfl⟩ | ⟨rfl, rfl⟩ | ⟨rfl, rfl⟩ | ⟨rfl, rfl⟩ | ⟨rfl, rfl⟩ | ⟨rfl, rfl⟩ <;> (obtain ⟨h1, h2⟩ : _ ∧ _ := hp; rw [h1]; exact isK_ky h2)
  · intro a w1 mb l hdf hsz h0 hg hmb hml hll h1 h2 h3
    have f3 : a.tmps.getD 3 undef = kyV ((1, 1, [43]) : Ky) := (show _ ∧ _ from h3 1 _ 3 rfl rfl).1
    obtain ⟨b0, g4, c0⟩ : ∃ b, a.tmps.getD 4 undef = clV 91 b ∧ w1.cell? ⟨b, 0, none⟩ = some (fnV 62) := h3 2 _ 4 rfl rfl
    have f5 : a.tmps.getD 5 undef = kyV ((1, 1, [45]) : Ky) := (show _ ∧ _ from h3 4 _ 5 rfl rfl).1
    obtain ⟨b1, g6, c1⟩ : ∃ b, a.tmps.getD 6 undef = clV 91 b ∧ w1.cell? ⟨b, 0, none⟩ = some (fnV 63) := h3 5 _ 6 rfl rfl
    have f7 : a.tmps.getD 7 undef = kyV ((1, 1, [42]) : Ky) := (show _ ∧ _ from h3 7 _ 7 rfl rfl).1
    obtain ⟨b2, g8, c2⟩ : ∃ b, a.tmps.getD 8 undef = clV 91 b ∧ w1.cell? ⟨b, 0, none⟩ = some (fnV 64) := h3 8 _ 8 rfl rfl
    have f9 : a.tmps.getD 9 undef = kyV ((1, 1, [68, 73, 86]) : Ky) := (show _ ∧ _ from h3 10 _ 9 rfl rfl).1
    obtain ⟨b3, g10, c3⟩ : ∃ b, a.tmps.getD 10 undef = clV 98 b ∧ w1.cell? ⟨b, 0, none⟩ = some (fnV 66) := h3 11 _ 10 rfl rfl
    have f11 : a.tmps.getD 11 undef = kyV ((1, 1, [77, 79, 68]) : Ky) := (show _ ∧ _ from h3 13 _ 11 rfl rfl).1
    obtain ⟨b4, g12, c4⟩ : ∃ b, a.tmps.getD 12 undef = clV 98 b ∧ w1.cell? ⟨b, 0, none⟩ = some (fnV 67) := h3 14 _ 12 rfl rfl
    have f13 : a.tmps.getD 13 undef = kyV ((4, 4, [43]) : Ky) := (show _ ∧ _ from h3 16 _ 13 rfl rfl).1
    obtain ⟨b5, g14, c5⟩ : ∃ b, a.tmps.getD 14 undef = clV 93 b ∧ w1.cell? ⟨b, 0, none⟩ = some (fnV 68) := h3 17 _ 14 rfl rfl
    have f15 : a.tmps.getD 15 undef = kyV ((4, 4, [45]) : Ky) := (show _ ∧ _ from h3 19 _ 15 rfl rfl).1
    obtain ⟨b6, g16, c6⟩ : ∃ b, a.tmps.getD 16 undef = clV 93 b ∧ w1.cell? ⟨b, 0, none⟩ = some (fnV 69) := h3 20 _ 16 rfl rfl
    have f17 : a.tmps.getD 17 undef = kyV ((4, 4, [42]) : Ky) := (show _ ∧ _ from h3 22 _ 17 rfl rfl).1
    obtain ⟨b7, g18, c7⟩ : ∃ b, a.tmps.getD 18 undef = clV 93 b ∧ w1.cell? ⟨b, 0, none⟩ = some (fnV 70) := h3 23 _ 18 rfl rfl
    have f19 : a.tmps.getD 19 undef = kyV ((4, 4, [47]) : Ky) := (show _ ∧ _ from h3 25 _ 19 rfl rfl).1
    obtain ⟨b8, g20, c8⟩ : ∃ b, a.tmps.getD 20 undef = clV 93 b ∧ w1.cell? ⟨b, 0, none⟩ = some (fnV 71) := h3 26 _ 20 rfl rfl
    have f21 : a.tmps.getD 21 undef = kyV ((2, 2, [38]) : Ky) := (show _ ∧ _ from h3 28 _ 21 rfl rfl).1
    obtain ⟨b9, g22, c9⟩ : ∃ b, a.tmps.getD 22 undef = clV 95 b ∧ w1.cell? ⟨b, 0, none⟩ = some (fnV 72) := h3 29 _ 22 rfl rfl
    have f23 : a.tmps.getD 23 undef = kyV ((2, 2, [79, 82]) : Ky) := (show _ ∧ _ from h3 31 _ 23 rfl rfl).1
    obtain ⟨b10, g24, c10⟩ : ∃ b, a.tmps.getD 24 undef = clV 95 b ∧ w1.cell? ⟨b, 0, none⟩ = some (fnV 73) := h3 32 _ 24 rfl rfl
    have f25 : a.tmps.getD 25 undef = kyV ((1, 4, [73, 78]) : Ky) := (show _ ∧ _ from h3 34 _ 25 rfl rfl).1
    have HM : MapK w1 mb litE := by
      refine ⟨[(((1, 1, [43]) : Ky), Cd.add, clV 91 b0), (((1, 1, [45]) : Ky), Cd.sub, clV 91 b1), (((1, 1, [42]) : Ky), Cd.mul, clV 91 b2), (((1, 1, [68, 73, 86]) : Ky), Cd.quo, clV 98 b3), (((1, 1, [77, 79, 68]) : Ky), Cd.rem, clV 98 b4), (((4, 4, [43]) : Ky), Cd.sor, clV 93 b5), (((4, 4, [45]) : Ky), Cd.sdf, clV 93 b6), (((4, 4, [42]) : Ky), Cd.san, clV 93 b7), (((4, 4, [47]) : Ky), Cd.sxo, clV 93 b8), (((2, 2, [38]) : Ky), Cd.and, clV 95 b9), (((2, 2, [79, 82]) : Ky), Cd.or, clV 95 b10), (((1, 4, [73, 78]) : Ky), Cd.isin, fnV 74)], rfl, ?_, l, by simp only [List.length_cons, List.length_nil]; omega, hml, fun p => ⟨fun hp => ?_, fun hp => ?_⟩⟩
      · intro z hz
        simp only [List.mem_cons, List.not_mem_nil, or_false] at hz
        rcases hz with rfl | rfl | rfl | rfl | rfl | rfl | rfl | rfl | rfl | rfl | rfl | rfl
        · exact ⟨b0, rfl, c0⟩
        · exact ⟨b1, rfl, c1⟩
        · exact ⟨b2, rfl, c2⟩
        · exact ⟨b3, rfl, c3⟩
        · exact ⟨b4, rfl, c4⟩
        · exact ⟨b5, rfl, c5⟩
        · exact ⟨b6, rfl, c6⟩
        · exact ⟨b7, rfl, c7⟩
        · exact ⟨b8, rfl, c8⟩
        · exact ⟨b9, rfl, c9⟩
        · exact ⟨b10, rfl, c10⟩
        · exact rfl
      · obtain ⟨i, o, kd, v, ho, hr, rfl⟩ := h1 p hp
        have hm := Mb.ents_mem.2 ⟨i, o, ho, hr⟩
        rw [show Mb.ents _ = [(3, .tmp 4), (5, .tmp 6), (7, .tmp 8), (9, .tmp 10), (11, .tmp 12), (13, .tmp 14), (15, .tmp 16), (17, .tmp 18), (19, .tmp 20), (21, .tmp 22), (23, .tmp 24), (25, .func 74)] by kernel_rfl] at hm
        simp only [List.mem_cons, Prod.mk.injEq, List.not_mem_nil, or_false] at hm
        rcases hm with ⟨rfl, rfl⟩ | ⟨rfl, rfl⟩ | ⟨rfl, rfl⟩ | ⟨rfl, rfl⟩ | ⟨rfl, rfl⟩ | ⟨rfl, rfl⟩ | ⟨rfl, rfl⟩ | ⟨rfl, rfl⟩ | ⟨rfl, rfl⟩ | ⟨rfl, rfl⟩ | ⟨rfl, rfl⟩ | ⟨rfl, rfl⟩
        · exact ⟨(((1, 1, [43]) : Ky), Cd.add, clV 91 b0), by simp only [List.mem_cons, true_or, or_true], by show (a.tmps.getD 3 undef, a.tmps.getD 4 undef) = _; rw [f3, g4]⟩
        · exact ⟨(((1, 1, [45]) : Ky), Cd.sub, clV 91 b1), by simp only [List.mem_cons, true_or, or_true], by show (a.tmps.getD 5 undef, a.tmps.getD 6 undef) = _; rw [f5, g6]⟩
        · exact ⟨(((1, 1, [42]) : Ky), Cd.mul, clV 91 b2), by simp only [List.mem_cons, true_or, or_true], by show (a.tmps.getD 7 undef, a.tmps.getD 8 undef) = _; rw [f7, g8]⟩
        · exact ⟨(((1, 1, [68, 73, 86]) : Ky), Cd.quo, clV 98 b3), by simp only [List.mem_cons, true_or, or_true], by show (a.tmps.getD 9 undef, a.tmps.getD 10 undef) = _; rw [f9, g10]⟩
        · exact ⟨(((1, 1, [77, 79, 68]) : Ky), Cd.rem, clV 98 b4), by simp only [List.mem_cons, true_or, or_true], by show (a.tmps.getD 11 undef, a.tmps.getD 12 undef) = _; rw [f11, g12]⟩
        · exact ⟨(((4, 4, [43]) : Ky), Cd.sor, clV 93 b5), by simp only [List.mem_cons, true_or, or_true], by show (a.tmps.getD 13 undef, a.tmps.getD 14 undef) = _; rw [f13, g14]⟩
        · exact ⟨(((4, 4, [45]) : Ky), Cd.sdf, clV 93 b6), by simp only [List.mem_cons, true_or, or_true], by show (a.tmps.getD 15 undef, a.tmps.getD 16 undef) = _; rw [f15, g16]⟩
        · exact ⟨(((4, 4, [42]) : Ky), Cd.san, clV 93 b7), by simp only [List.mem_cons, true_or, or_true], by show (a.tmps.getD 17 undef, a.tmps.getD 18 undef) = _; rw [f17, g18]⟩
        · exact ⟨(((4, 4, [47]) : Ky), Cd.sxo, clV 93 b8), by simp only [List.mem_cons, true_or, or_true], by show (a.tmps.getD 19 undef, a.tmps.getD 20 undef) = _; rw [f19, g20]⟩
        · exact ⟨(((2, 2, [38]) : Ky), Cd.and, clV 95 b9), by simp only [List.mem_cons, true_or, or_true], by show (a.tmps.getD 21 undef, a.tmps.getD 22 undef) = _; rw [f21, g22]⟩
        · exact ⟨(((2, 2, [79, 82]) : Ky), Cd.or, clV 95 b10), by simp only [List.mem_cons, true_or, or_true], by show (a.tmps.getD 23 undef, a.tmps.getD 24 undef) = _; rw [f23, g24]⟩
        · exact ⟨(((1, 4, [73, 78]) : Ky), Cd.isin, fnV 74), by simp only [List.mem_cons, true_or, or_true], by rw [f25]; rfl⟩
      · obtain ⟨q, hq, rfl⟩ := hp
        simp only [List.mem_cons, List.not_mem_nil, or_false] at hq
        rcases hq with rfl | rfl | rfl | rfl | rfl | rfl | rfl | rfl | rfl | rfl | rfl | rfl
        · have := h2 3 _ 3 (.tmp 4) rfl rfl; rw [show a.eval (.tmp 4) = a.tmps.getD 4 undef from rfl, f3, g4] at this; exact this
        · have := h2 6 _ 5 (.tmp 6) rfl rfl; rw [show a.eval (.tmp 6) = a.tmps.getD 6 undef from rfl, f5, g6] at this; exact this
        · have := h2 9 _ 7 (.tmp 8) rfl rfl; rw [show a.eval (.tmp 8) = a.tmps.getD 8 undef from rfl, f7, g8] at this; exact this
        · have := h2 12 _ 9 (.tmp 10) rfl rfl; rw [show a.eval (.tmp 10) = a.tmps.getD 10 undef from rfl, f9, g10] at this; exact this
        · have := h2 15 _ 11 (.tmp 12) rfl rfl; rw [show a.eval (.tmp 12) = a.tmps.getD 12 undef from rfl, f11, g12] at this; exact this
        · have := h2 18 _ 13 (.tmp 14) rfl rfl; rw [show a.eval (.tmp 14) = a.tmps.getD 14 undef from rfl, f13, g14] at this; exact this
        · have := h2 21 _ 15 (.tmp 16) rfl rfl; rw [show a.eval (.tmp 16) = a.tmps.getD 16 undef from rfl, f15, g16] at this; exact this
        · have := h2 24 _ 17 (.tmp 18) rfl rfl; rw [show a.eval (.tmp 18) = a.tmps.getD 18 undef from rfl, f17, g18] at this; exact this
        · have := h2 27 _ 19 (.tmp 20) rfl rfl; rw [show a.eval (.tmp 20) = a.tmps.getD 20 undef from rfl, f19, g20] at this; exact this
        · have := h2 30 _ 21 (.tmp 22) rfl rfl; rw [show a.eval (.tmp 22) = a.tmps.getD 22 undef from rfl, f21, g22] at this; exact this
        · have := h2 33 _ 23 (.tmp 24) rfl rfl; rw [show a.eval (.tmp 24) = a.tmps.getD 24 undef from rfl, f23, g24] at this; exact this
        · have := h2 35 _ 25 (.func 74) rfl rfl; rw [f25] at this; exact this
    have h0' : a.tmps[1]?.getD undef = .map (some mb) := by rw [← Array.getD_eq_getD_getElem?]; exact h0
    go_wp2_with (go_at_call 75; refine (addRelations_at HM (by decide)).mono ?_; rintro e w2 ⟨rfl, hg2, HM2⟩)
    have ha : ∀ h, a.tmps[1]'h = Value.map (some mb) := fun h => by rw [← h0]; simp [Array.getD, h]
    refine bodyPost_ret (v := .map (some mb)) (by simp [results, Try.results35, go_sem, hsz, ha]) rfl ?_
    exact ⟨mb, rfl, grown_then hg hg2 (fun y e => by cases e; exact .inr hmb), HM2⟩
end Go.Proofs.Ytgdpcdpkaaefbaa.Cn
