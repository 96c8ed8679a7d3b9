/-
  The laws' own wakes.
-/
import Derived.Test.YtolfhkcfepkfdaaPr5
namespace Go.Proofs.Ytolfhkcfepkfdaa.Ri
open Go.RowKit Go.Proofs.Ytolfhkcfepkfdaa.Tx Go.Proofs.Ytolfhkcfepkfdaa.Bits
set_option linter.unusedVariables false
set_option linter.unusedSimpArgs false
set_option maxRecDepth 100000

/- A writer of the call's own. -/
theorem own_g {w W W1 : World} {q : Nat} {v v1 : Value} (h : w.grownBy W none) (hq : w.heap.size ≤ q) (hv : ∀ k, v.ownBlock = some k → w.heap.size ≤ k) (st : Wst W W1 q v v1) : w.grownBy W1 none :=
  ⟨st.os.trans h.os, st.tape.trans h.tape, st.output.trans h.output, Nat.le_trans h.size st.size, fun i hi _ => (st.block i (Nat.lt_of_lt_of_le hi h.size) (by omega) (fun e => by have := hv i e; omega)).trans (h.block i hi (by simp))⟩
theorem Ww.old {W : World} {B q : Nat} {v : Value} {xs : List UInt8} {sp : Bool} (r : Ww W B q v xs sp) : ∀ k, v.ownBlock = some k → B ≤ k := fun k hk => (r.row.lt k hk).1
theorem scan_bad : Scan [192, 128, 0] 0 [192, 128] (some 0) :=
  ⟨by decide, by decide, fun i h => by rcases (by simp at h; omega : i = 0 ∨ i = 1) with rfl | rfl <;> rfl, rfl, .inr (.inr ⟨0, rfl, by decide⟩)⟩
theorem numR_bad : numR [192, 128] (some 0) = none := by decide +kernel
theorem num64 : numL 64 = [192, 0] := by decide +kernel
theorem fits64 : fitsB 64 32 = true := by decide +kernel
set_option maxHeartbeats 1000000 in
theorem wakes_any (w : World) : Calls Try.prog 10 #[] w fun e w' => e = .returned (.bool true) ∧ w.grownBy w' none := by
  have b1 : (⟨#[97, 98]⟩ : ByteArray) = bs [97, 98] := rfl
  have b2 : (⟨#[192, 128, 0]⟩ : ByteArray) = bs [192, 128, 0] := rfl
  have b3 : (⟨#[192, 0, 97, 98, 0]⟩ : ByteArray) = bs [192, 0, 97, 98, 0] := rfl
  go_enter Try.func10, Try.ntmps10
  have ht : ((bs [192, 0, 97, 98, 0]).toList == (bs [192, 0, 97, 98, 0]).toList) = true := by simp
  go_wp2_with (first
    | (go_at_call 9; refine (write_new _).mono ?_; rintro e w1 ⟨rfl, h1, h2⟩; have H1 := hide h1; have G1 := hide h2; clear h1 h2)
    | (go_at_call 17; refine (pwnum_yes H1.out (by simp) G1.out.size 64 fits64).mono ?_; rw [num64]; rintro e w2 ⟨rfl, v2, h1, h2⟩; have H2 := hide h1; have G2 := hide (own_g G1.out (Nat.le_refl _) H1.out.old h2); clear h1 h2)
    | (go_at_call 19; refine (pwtext_yes H2.out (by decide) G2.out.size [97, 98] ⟨by decide, by decide⟩).mono ?_; rintro e w3 ⟨rfl, v3, h1, h2⟩; have H3 := hide (show Ww w3 _ _ v3 [192, 0, 97, 98, 0] false from h1); have G3 := hide (own_g G2.out (Nat.le_refl _) H2.out.old h2); clear h1 h2)
    | (go_at_call 12; refine (pbytes_ok H3.out (by decide)).mono ?_; rintro e w' ⟨rfl, hw⟩; replace hw := hw.symm; subst hw)
    | (go_at_call 14; refine (read_new _ [192, 128, 0] (by decide)).mono ?_; rintro e w4 ⟨rfl, h1, h2⟩; have hr := G3.out.size; generalize w3.heap.size = R at h1 hr ⊢; have H4 := hide h1; have G4 := hide (grown_trans G3.out h2); have HR4 := hide hr; clear h1 h2 hr)
    | (go_at_call 21; refine (pnum_run H4.out scan_bad).mono ?_; rw [numR_bad]; rintro e w5 ⟨rfl, h1, h2⟩; have H5 := hide h1; have G5 := hide (grown_own G4.out HR4.out h2); clear h1 h2)
    | (go_at_call 25; refine (pbad_at H5.out).mono ?_; rintro e w' ⟨rfl, hw⟩; replace hw := hw.symm; subst hw)
    | (go_at_call 26; refine (pat_at H5.out).mono ?_; rintro e w' ⟨rfl, hw⟩; replace hw := hw.symm; subst hw))
  go_ret
  exact ⟨rfl, G5.out⟩
end Go.Proofs.Ytolfhkcfepkfdaa.Ri
