/-
  Types' laws: TypesGoods, walked.
-/
import Derived.Test.YtmoekalagollhaaY10
import Derived.Test.YtmoekalagollhaaTg26
import Derived.Test.YtmoekalagollhaaTg29
namespace Go.Proofs.Ytmoekalagollhaa.Ty
open Go.RowKit hiding Hid
open Go.Maps Go.Proofs.Ytmoekalagollhaa.Tx Go.Proofs.Ytmoekalagollhaa.Lx Go.Proofs.Ytmoekalagollhaa.Tr Go.Proofs.Ytmoekalagollhaa.Mp
set_option linter.unusedVariables false
set_option linter.unusedSimpArgs false
set_option maxRecDepth 100000

theorem large_T13 {w : World} {o : Option Addr} {l : List La} {T : List Tt} (cp : Nat) (hT : l.map La.x = T) (H : TabR w o l) (hl : l.length ≤ rch) : Calls Try.prog 12 #[.slice o T.length cp] w (LgO w l) := by
  subst hT
  rw [List.length_map]
  exact large_at cp H hl
def CpT (w : World) (T : List Tt) (e : Ending) (w' : World) : Prop := ∃ oi ci, e = .returned (.slice oi T.length ci) ∧ w.grownBy w' none ∧ Tab w' oi T ∧ T.length ≤ ci
theorem copy_T13 {w : World} {o : Option Addr} {l : List La} {T : List Tt} (cp : Nat) (hT : l.map La.x = T) (H : TabR w o l) (hf : Few l) : Calls Try.prog 14 #[.slice o T.length cp] w (CpT w T) := by
  subst hT
  obtain ⟨h1, h2, h3⟩ := hf.small H
  have hle := hf.le
  rw [show ((l.map La.x).length) = l.length by rw [List.length_map]]
  refine (copy_go cp h1 h2 h3 (by omega)).mono fun e w' ⟨oi, ci, xs, he, hg, hr, hv⟩ => ?_
  obtain ⟨ht, hc⟩ := CoO.tab (by rw [List.length_map]; omega) (fun x hx => by
    obtain ⟨a, ha, rfl⟩ := List.mem_map.1 hx
    exact (h1.parts a ha).sm) hr hv
  exact ⟨oi, ci, he, hg, ht, hc⟩
theorem tables_b {w : World} {o o2 : Option Addr} (cp cp2 : Nat) (h1 : Tab w o basT) (h2 : Tab w o2 basT) : Calls Try.prog 17 #[.slice o 7 cp, .slice o2 7 cp2] w fun e w' => e = .returned (.bool true) ∧ w.grownBy w' none := by
  have h7 : basT.length = 7 := rfl
  have h := tables_e cp cp2 h1 h2
  rw [h7] at h
  exact h
set_option maxHeartbeats 8000000 in
theorem goods_walk {w : World} {o : Option Addr} {cp : Nat} {l : List La} (H : TabR w o l) (hl : l.length ≤ rch) : Calls Try.prog 3 #[.slice o l.length cp] w (SzO w (.bool true)) := by
  obtain ⟨T, hT⟩ : ∃ T, l.map La.x = T := ⟨_, rfl⟩
  rw [show l.length = T.length by rw [← hT, List.length_map]]
  have HT := hide H
  have HTe := hide hT
  have HLl := hide hl
  have HC := hide (Cx.start w (fun _ => False))
  have M1 := True.intro
  clear H hl hT
  go_enter Try.func3, Try.ntmps3
  go_wp2_with (first | (go_at_call 12; refine (large_T13 cp HTe.out (HT.out.kept HC.out.grown) HLl.out).mono ?_; rintro e w1 ⟨d, rfl, hg, hd⟩; (replace HC := hide (HC.out.g hg)); clear hg; cases d <;> (first | (have HFw := hide (hd rfl); clear hd) | clear hd)) | (go_at_call 13; refine (wakes13 _).mono ?_; rintro e w1 ⟨rfl, hg⟩; (replace HC := hide (HC.out.g hg)); clear hg) | (go_at_call 14; refine (copy_T13 cp HTe.out (HT.out.kept HC.out.grown) HFw.out).mono ?_; rintro e w1 ⟨oi, ci, rfl, hg, ht, hci⟩; (replace HC := hide (HC.out.g hg)); have HTi := hide ht; have HCi := hide hci; clear hg ht hci) | (go_at_call 15; refine (good_at _ HTi.out HCi.out).mono ?_; rintro e w1 ⟨d1, rfl, hg, hd1⟩; (replace HC := hide (HC.out.g hg)); replace HTi := hide (HTi.out.kept hg); have HD1 := hide hd1; clear hg hd1) | (go_at_call 16; refine (rgood_at _ (by have h := HFw.out.tab HT.out; rw [HTe.out] at h; exact h.kept HC.out.grown)).mono ?_; rintro e w1 ⟨d2, rfl, hg, hd2⟩; obtain rfl : d2 = d1 := (by have h1 := HD1.out; cases d1 <;> cases d2 <;> simp_all); (replace HC := hide (HC.out.g hg)); replace HTi := hide (HTi.out.kept hg); clear hg hd2) | (go_at_call 17; clear M1; refine (tables_e _ _ HTi.out (by have h := HFw.out.tab HT.out; rw [HTe.out] at h; exact h.kept HC.out.grown)).mono ?_; rintro e w1 ⟨rfl, hg⟩; (replace HC := hide (HC.out.g hg)); clear hg) | (go_at_call 18; refine (pbasic_at _).mono ?_; rintro e w1 ⟨ob, cb, rfl, h7, hg, hb⟩; (replace HC := hide (HC.out.g hg)); have HB1 := hide hb; clear hg hb h7) | (go_at_call 19; refine (rbasic_at _).mono ?_; rintro e w1 ⟨ob2, cb2, rfl, h7, hg, hb⟩; (replace HC := hide (HC.out.g hg)); replace HB1 := hide (HB1.out.kept hg); have HB2 := hide hb; clear hg hb h7) | (go_at_call 17; refine (tables_b _ _ HB1.out HB2.out).mono ?_; rintro e w1 ⟨rfl, hg⟩; (replace HC := hide (HC.out.g hg)); clear hg))
  all_goals go_ret
  all_goals (exact ⟨rfl, HC.out.grown⟩)
end Go.Proofs.Ytmoekalagollhaa.Ty
