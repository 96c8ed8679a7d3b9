/-
  Package consts: calls.
-/
import Derived.Test.YtgdpcdpkaaefbaaCn10
import Derived.Test.YtgdpcdpkaaefbaaMc4
namespace Go.Proofs.Ytgdpcdpkaaefbaa.Cn
open Go.RowKit hiding Hid
open Go.Maps Go.Proofs.Ytgdpcdpkaaefbaa.Tx Go.Proofs.Ytgdpcdpkaaefbaa.Lx Go.Proofs.Ytgdpcdpkaaefbaa.Mp Go.Proofs.Ytgdpcdpkaaefbaa.Bits Go.Proofs.Ytgdpcdpkaaefbaa.Tr
set_option linter.unusedVariables false
set_option linter.unusedSimpArgs false
set_option maxRecDepth 100000

def callsE : List (Ky × Cd) := [(((1, 0, [65, 66, 83]) : Ky), Cd.abs), (((1, 0, [79, 68, 68]) : Ky), Cd.odd), (((1, 1, [76, 83, 76]) : Ky), Cd.lsl), (((1, 1, [65, 83, 82]) : Ky), Cd.asr), (((1, 1, [82, 79, 82]) : Ky), Cd.ror), (((3, 0, [79, 82, 68]) : Ky), Cd.wi1), (((2, 0, [79, 82, 68]) : Ky), Cd.wi2), (((4, 0, [79, 82, 68]) : Ky), Cd.wi3), (((6, 0, [79, 82, 68]) : Ky), Cd.otx), (((1, 0, [67, 72, 82]) : Ky), Cd.chr)]
def callsS : List (Nat × Sp) := [(2, .ky ((1, 0, [65, 66, 83]) : Ky)), (3, .cl 91 78), (4, .ky ((1, 0, [79, 68, 68]) : Ky)), (5, .cl 95 79), (6, .ky ((1, 1, [76, 83, 76]) : Ky)), (7, .cl 109 81), (8, .ky ((1, 1, [65, 83, 82]) : Ky)), (9, .cl 109 82), (10, .ky ((1, 1, [82, 79, 82]) : Ky)), (11, .cl 109 83), (12, .ky ((3, 0, [79, 82, 68]) : Ky)), (13, .cl 109 84), (14, .ky ((2, 0, [79, 82, 68]) : Ky)), (15, .cl 109 85), (16, .ky ((4, 0, [79, 82, 68]) : Ky)), (17, .cl 109 86), (18, .ky ((6, 0, [79, 82, 68]) : Ky)), (19, .ky ((1, 0, [67, 72, 82]) : Ky))]
set_option maxHeartbeats 6400000 in
theorem calls_at (w : World) : Calls Try.prog 43 #[] w fun e w' => ∃ mb, e = .returned (.map (some mb)) ∧ w.grownBy w' none ∧ MapK w' mb callsE := by
  go_enter Try.func43, Try.ntmps43
  go_wp2
  refine wp_region_any (by kernel_rfl) ?_
  refine Mc.map_any (w0 := w) (T := 54) (Φ := phi callsS) (N := 21) (a0 := _) LKk Try.underlying54 (by kernel_rfl) (phi_g _) (phi_m _) ?_ ?_ ?_ ⟨0, _, rfl, rfl⟩ ⟨30, _, _, rfl, rfl⟩ _ _ _ _ [] (Mc.inv0 rfl) (by decide) (by simp)
  · intro i o d ho hr a w1 K' hg h
    have hm := Mc.vls_mem ho hr
    rw [show Mc.vls _ = [(1, 2), (2, 3), (4, 4), (5, 5), (7, 6), (8, 7), (10, 8), (11, 9), (13, 10), (14, 11), (16, 12), (17, 13), (19, 14), (20, 15), (22, 16), (23, 17), (25, 18), (27, 19)] by kernel_rfl] at hm
    simp only [List.mem_cons, Prod.mk.injEq, List.not_mem_nil, or_false] at hm
    rcases hm with ⟨rfl, rfl⟩ | ⟨rfl, rfl⟩ | ⟨rfl, rfl⟩ | ⟨rfl, rfl⟩ | ⟨rfl, rfl⟩ | ⟨rfl, rfl⟩ | ⟨rfl, rfl⟩ | ⟨rfl, rfl⟩ | ⟨rfl, rfl⟩ | ⟨rfl, rfl⟩ | ⟨rfl, rfl⟩ | ⟨rfl, rfl⟩ | ⟨rfl, rfl⟩ | ⟨rfl, rfl⟩ | ⟨rfl, rfl⟩ | ⟨rfl, rfl⟩ | ⟨rfl, rfl⟩ | ⟨rfl, rfl⟩
    · (injection ho with ho; subst ho; refine op_bld (x := ((1, 0, [65, 66, 83]) : Ky)) rfl (by kernel_rfl) (fun v w' hg hv => h v w' hg ?_); exact ⟨hv, kok_of _ (by decide)⟩)
    · (injection ho with ho; subst ho; refine op_ofInts 78 rfl rfl (fun v w' hg hv => h v w' hg hv))
    · (injection ho with ho; subst ho; refine op_bld (x := ((1, 0, [79, 68, 68]) : Ky)) rfl (by kernel_rfl) (fun v w' hg hv => h v w' hg ?_); exact ⟨hv, kok_of _ (by decide)⟩)
    · (injection ho with ho; subst ho; refine op_tells 79 rfl rfl (fun v w' hg hv => h v w' hg hv))
    · (injection ho with ho; subst ho; refine op_bld (x := ((1, 1, [76, 83, 76]) : Ky)) rfl (by kernel_rfl) (fun v w' hg hv => h v w' hg ?_); exact ⟨hv, kok_of _ (by decide)⟩)
    · (injection ho with ho; subst ho; refine op_ofWords 81 rfl rfl (fun v w' hg hv => h v w' hg hv))
    · (injection ho with ho; subst ho; refine op_bld (x := ((1, 1, [65, 83, 82]) : Ky)) rfl (by kernel_rfl) (fun v w' hg hv => h v w' hg ?_); exact ⟨hv, kok_of _ (by decide)⟩)
    · (injection ho with ho; subst ho; refine op_ofWords 82 rfl rfl (fun v w' hg hv => h v w' hg hv))
    · (injection ho with ho; subst ho; refine op_bld (x := ((1, 1, [82, 79, 82]) : Ky)) rfl (by kernel_rfl) (fun v w' hg hv => h v w' hg ?_); exact ⟨hv, kok_of _ (by decide)⟩)
    · (injection ho with ho; subst ho; refine op_ofWords 83 rfl rfl (fun v w' hg hv => h v w' hg hv))
    · (injection ho with ho; subst ho; refine op_bld (x := ((3, 0, [79, 82, 68]) : Ky)) rfl (by kernel_rfl) (fun v w' hg hv => h v w' hg ?_); exact ⟨hv, kok_of _ (by decide)⟩)
    · (injection ho with ho; subst ho; refine op_ofWords 84 rfl rfl (fun v w' hg hv => h v w' hg hv))
    · (injection ho with ho; subst ho; refine op_bld (x := ((2, 0, [79, 82, 68]) : Ky)) rfl (by kernel_rfl) (fun v w' hg hv => h v w' hg ?_); exact ⟨hv, kok_of _ (by decide)⟩)
    · (injection ho with ho; subst ho; refine op_ofWords 85 rfl rfl (fun v w' hg hv => h v w' hg hv))
    · (injection ho with ho; subst ho; refine op_bld (x := ((4, 0, [79, 82, 68]) : Ky)) rfl (by kernel_rfl) (fun v w' hg hv => h v w' hg ?_); exact ⟨hv, kok_of _ (by decide)⟩)
    · (injection ho with ho; subst ho; refine op_ofWords 86 rfl rfl (fun v w' hg hv => h v w' hg hv))
    · (injection ho with ho; subst ho; refine op_bld (x := ((6, 0, [79, 82, 68]) : Ky)) rfl (by kernel_rfl) (fun v w' hg hv => h v w' hg ?_); exact ⟨hv, kok_of _ (by decide)⟩)
    · (injection ho with ho; subst ho; refine op_bld (x := ((1, 0, [67, 72, 82]) : Ky)) rfl (by kernel_rfl) (fun v w' hg hv => h v w' hg ?_); exact ⟨hv, kok_of _ (by decide)⟩)
  · intro i o kd v ho hr u w1 hp
    have hm := Mc.ents_mem.2 ⟨i, o, ho, hr⟩
    rw [show Mc.ents _ = [(2, .tmp 3), (4, .tmp 5), (6, .tmp 7), (8, .tmp 9), (10, .tmp 11), (12, .tmp 13), (14, .tmp 15), (16, .tmp 17), (18, .func 87), (19, .func 88)] by kernel_rfl] at hm
    simp only [List.mem_cons, Prod.mk.injEq, List.not_mem_nil, or_false] at hm
    rcases hm with ⟨rfl, rfl⟩ | ⟨rfl, rfl⟩ | ⟨rfl, rfl⟩ | ⟨rfl, rfl⟩ | ⟨rfl, rfl⟩ | ⟨rfl, rfl⟩ | ⟨rfl, rfl⟩ | ⟨rfl, rfl⟩ | ⟨rfl, rfl⟩ | ⟨rfl, rfl⟩ <;> (obtain ⟨h1, h2⟩ : _ ∧ _ := hp; rw [h1]; exact isK_ky h2)
  · intro a w1 mb l hdf hsz h0 hg hmb hml hll h1 h2 h3
    have f2 : a.tmps.getD 2 undef = kyV ((1, 0, [65, 66, 83]) : Ky) := (show _ ∧ _ from h3 1 _ 2 rfl rfl).1
    obtain ⟨b0, g3, c0⟩ : ∃ b, a.tmps.getD 3 undef = clV 91 b ∧ w1.cell? ⟨b, 0, none⟩ = some (fnV 78) := h3 2 _ 3 rfl rfl
    have f4 : a.tmps.getD 4 undef = kyV ((1, 0, [79, 68, 68]) : Ky) := (show _ ∧ _ from h3 4 _ 4 rfl rfl).1
    obtain ⟨b1, g5, c1⟩ : ∃ b, a.tmps.getD 5 undef = clV 95 b ∧ w1.cell? ⟨b, 0, none⟩ = some (fnV 79) := h3 5 _ 5 rfl rfl
    have f6 : a.tmps.getD 6 undef = kyV ((1, 1, [76, 83, 76]) : Ky) := (show _ ∧ _ from h3 7 _ 6 rfl rfl).1
    obtain ⟨b2, g7, c2⟩ : ∃ b, a.tmps.getD 7 undef = clV 109 b ∧ w1.cell? ⟨b, 0, none⟩ = some (fnV 81) := h3 8 _ 7 rfl rfl
    have f8 : a.tmps.getD 8 undef = kyV ((1, 1, [65, 83, 82]) : Ky) := (show _ ∧ _ from h3 10 _ 8 rfl rfl).1
    obtain ⟨b3, g9, c3⟩ : ∃ b, a.tmps.getD 9 undef = clV 109 b ∧ w1.cell? ⟨b, 0, none⟩ = some (fnV 82) := h3 11 _ 9 rfl rfl
    have f10 : a.tmps.getD 10 undef = kyV ((1, 1, [82, 79, 82]) : Ky) := (show _ ∧ _ from h3 13 _ 10 rfl rfl).1
    obtain ⟨b4, g11, c4⟩ : ∃ b, a.tmps.getD 11 undef = clV 109 b ∧ w1.cell? ⟨b, 0, none⟩ = some (fnV 83) := h3 14 _ 11 rfl rfl
    have f12 : a.tmps.getD 12 undef = kyV ((3, 0, [79, 82, 68]) : Ky) := (show _ ∧ _ from h3 16 _ 12 rfl rfl).1
    obtain ⟨b5, g13, c5⟩ : ∃ b, a.tmps.getD 13 undef = clV 109 b ∧ w1.cell? ⟨b, 0, none⟩ = some (fnV 84) := h3 17 _ 13 rfl rfl
    have f14 : a.tmps.getD 14 undef = kyV ((2, 0, [79, 82, 68]) : Ky) := (show _ ∧ _ from h3 19 _ 14 rfl rfl).1
    obtain ⟨b6, g15, c6⟩ : ∃ b, a.tmps.getD 15 undef = clV 109 b ∧ w1.cell? ⟨b, 0, none⟩ = some (fnV 85) := h3 20 _ 15 rfl rfl
    have f16 : a.tmps.getD 16 undef = kyV ((4, 0, [79, 82, 68]) : Ky) := (show _ ∧ _ from h3 22 _ 16 rfl rfl).1
    obtain ⟨b7, g17, c7⟩ : ∃ b, a.tmps.getD 17 undef = clV 109 b ∧ w1.cell? ⟨b, 0, none⟩ = some (fnV 86) := h3 23 _ 17 rfl rfl
    have f18 : a.tmps.getD 18 undef = kyV ((6, 0, [79, 82, 68]) : Ky) := (show _ ∧ _ from h3 25 _ 18 rfl rfl).1
    have f19 : a.tmps.getD 19 undef = kyV ((1, 0, [67, 72, 82]) : Ky) := (show _ ∧ _ from h3 27 _ 19 rfl rfl).1
    have HM : MapK w1 mb callsE := by
      refine ⟨[(((1, 0, [65, 66, 83]) : Ky), Cd.abs, clV 91 b0), (((1, 0, [79, 68, 68]) : Ky), Cd.odd, clV 95 b1), (((1, 1, [76, 83, 76]) : Ky), Cd.lsl, clV 109 b2), (((1, 1, [65, 83, 82]) : Ky), Cd.asr, clV 109 b3), (((1, 1, [82, 79, 82]) : Ky), Cd.ror, clV 109 b4), (((3, 0, [79, 82, 68]) : Ky), Cd.wi1, clV 109 b5), (((2, 0, [79, 82, 68]) : Ky), Cd.wi2, clV 109 b6), (((4, 0, [79, 82, 68]) : Ky), Cd.wi3, clV 109 b7), (((6, 0, [79, 82, 68]) : Ky), Cd.otx, fnV 87), (((1, 0, [67, 72, 82]) : Ky), Cd.chr, fnV 88)], rfl, ?_, l, by simp only [List.length_cons, List.length_nil]; omega, hml, fun p => ⟨fun hp => ?_, fun hp => ?_⟩⟩
      · intro z hz
        simp only [List.mem_cons, List.not_mem_nil, or_false] at hz
        rcases hz with rfl | rfl | rfl | rfl | rfl | rfl | rfl | rfl | rfl | rfl
        · exact ⟨b0, rfl, c0⟩
        · exact ⟨b1, rfl, c1⟩
        · exact ⟨b2, rfl, c2⟩
        · exact ⟨b3, rfl, c3⟩
        · exact ⟨b4, rfl, c4⟩
        · exact ⟨b5, rfl, c5⟩
        · exact ⟨b6, rfl, c6⟩
        · exact ⟨b7, rfl, c7⟩
        · exact rfl
        · exact rfl
      · obtain ⟨i, o, kd, v, ho, hr, rfl⟩ := h1 p hp
        have hm := Mc.ents_mem.2 ⟨i, o, ho, hr⟩
        rw [show Mc.ents _ = [(2, .tmp 3), (4, .tmp 5), (6, .tmp 7), (8, .tmp 9), (10, .tmp 11), (12, .tmp 13), (14, .tmp 15), (16, .tmp 17), (18, .func 87), (19, .func 88)] by kernel_rfl] at hm
        simp only [List.mem_cons, Prod.mk.injEq, List.not_mem_nil, or_false] at hm
        rcases hm with ⟨rfl, rfl⟩ | ⟨rfl, rfl⟩ | ⟨rfl, rfl⟩ | ⟨rfl, rfl⟩ | ⟨rfl, rfl⟩ | ⟨rfl, rfl⟩ | ⟨rfl, rfl⟩ | ⟨rfl, rfl⟩ | ⟨rfl, rfl⟩ | ⟨rfl, rfl⟩
        · exact ⟨(((1, 0, [65, 66, 83]) : Ky), Cd.abs, clV 91 b0), by simp only [List.mem_cons, true_or, or_true], by show (a.tmps.getD 2 undef, a.tmps.getD 3 undef) = _; rw [f2, g3]⟩
        · exact ⟨(((1, 0, [79, 68, 68]) : Ky), Cd.odd, clV 95 b1), by simp only [List.mem_cons, true_or, or_true], by show (a.tmps.getD 4 undef, a.tmps.getD 5 undef) = _; rw [f4, g5]⟩
        · exact ⟨(((1, 1, [76, 83, 76]) : Ky), Cd.lsl, clV 109 b2), by simp only [List.mem_cons, true_or, or_true], by show (a.tmps.getD 6 undef, a.tmps.getD 7 undef) = _; rw [f6, g7]⟩
        · exact ⟨(((1, 1, [65, 83, 82]) : Ky), Cd.asr, clV 109 b3), by simp only [List.mem_cons, true_or, or_true], by show (a.tmps.getD 8 undef, a.tmps.getD 9 undef) = _; rw [f8, g9]⟩
        · exact ⟨(((1, 1, [82, 79, 82]) : Ky), Cd.ror, clV 109 b4), by simp only [List.mem_cons, true_or, or_true], by show (a.tmps.getD 10 undef, a.tmps.getD 11 undef) = _; rw [f10, g11]⟩
        · exact ⟨(((3, 0, [79, 82, 68]) : Ky), Cd.wi1, clV 109 b5), by simp only [List.mem_cons, true_or, or_true], by show (a.tmps.getD 12 undef, a.tmps.getD 13 undef) = _; rw [f12, g13]⟩
        · exact ⟨(((2, 0, [79, 82, 68]) : Ky), Cd.wi2, clV 109 b6), by simp only [List.mem_cons, true_or, or_true], by show (a.tmps.getD 14 undef, a.tmps.getD 15 undef) = _; rw [f14, g15]⟩
        · exact ⟨(((4, 0, [79, 82, 68]) : Ky), Cd.wi3, clV 109 b7), by simp only [List.mem_cons, true_or, or_true], by show (a.tmps.getD 16 undef, a.tmps.getD 17 undef) = _; rw [f16, g17]⟩
        · exact ⟨(((6, 0, [79, 82, 68]) : Ky), Cd.otx, fnV 87), by simp only [List.mem_cons, true_or, or_true], by rw [f18]; rfl⟩
        · exact ⟨(((1, 0, [67, 72, 82]) : Ky), Cd.chr, fnV 88), by simp only [List.mem_cons, true_or, or_true], by rw [f19]; rfl⟩
      · obtain ⟨q, hq, rfl⟩ := hp
        simp only [List.mem_cons, List.not_mem_nil, or_false] at hq
        rcases hq with rfl | rfl | rfl | rfl | rfl | rfl | rfl | rfl | rfl | rfl
        · have := h2 3 _ 2 (.tmp 3) rfl rfl; rw [show a.eval (.tmp 3) = a.tmps.getD 3 undef from rfl, f2, g3] at this; exact this
        · have := h2 6 _ 4 (.tmp 5) rfl rfl; rw [show a.eval (.tmp 5) = a.tmps.getD 5 undef from rfl, f4, g5] at this; exact this
        · have := h2 9 _ 6 (.tmp 7) rfl rfl; rw [show a.eval (.tmp 7) = a.tmps.getD 7 undef from rfl, f6, g7] at this; exact this
        · have := h2 12 _ 8 (.tmp 9) rfl rfl; rw [show a.eval (.tmp 9) = a.tmps.getD 9 undef from rfl, f8, g9] at this; exact this
        · have := h2 15 _ 10 (.tmp 11) rfl rfl; rw [show a.eval (.tmp 11) = a.tmps.getD 11 undef from rfl, f10, g11] at this; exact this
        · have := h2 18 _ 12 (.tmp 13) rfl rfl; rw [show a.eval (.tmp 13) = a.tmps.getD 13 undef from rfl, f12, g13] at this; exact this
        · have := h2 21 _ 14 (.tmp 15) rfl rfl; rw [show a.eval (.tmp 15) = a.tmps.getD 15 undef from rfl, f14, g15] at this; exact this
        · have := h2 24 _ 16 (.tmp 17) rfl rfl; rw [show a.eval (.tmp 17) = a.tmps.getD 17 undef from rfl, f16, g17] at this; exact this
        · have := h2 26 _ 18 (.func 87) rfl rfl; rw [f18] at this; exact this
        · have := h2 28 _ 19 (.func 88) rfl rfl; rw [f19] at this; exact this
    have h0' : a.tmps[0]?.getD undef = .map (some mb) := by rw [← Array.getD_eq_getD_getElem?]; exact h0
    go_wp2
    refine bodyPost_ret (v := .map (some mb)) (by simp [results, Try.results43, go_sem, h0']) hdf ?_
    exact ⟨mb, rfl, hg, HM⟩
end Go.Proofs.Ytgdpcdpkaaefbaa.Cn
