/-
  The document's own tables (package spinetref13): one type, a procedure.
-/
import Derived.Test.YthmldhppmpbadaaY15
namespace Go.Proofs.Ythmldhppmpbadaa.Ty
open Go.RowKit hiding Hid
open Go.Maps Go.Proofs.Ythmldhppmpbadaa.Tx Go.Proofs.Ythmldhppmpbadaa.Lx Go.Proofs.Ythmldhppmpbadaa.Tr Go.Proofs.Ythmldhppmpbadaa.Mp
set_option linter.unusedVariables false
set_option linter.unusedSimpArgs false
set_option maxRecDepth 100000

def pmR (T : List Tt) (p : Pm) : Bool := holdsA T p.t || (inT T.length p.t && fmA T p.t == 8)
def resR (T : List Tt) (a : Int) : Bool := a == 0 || (holdsA T a && (fmA T a != 7 && fmA T a != 9))
def prB (T : List Tt) (pr : List Pm) (rs : Int) : Bool := pr.all (pmR T) && (decide (pr.length ≤ 64) && resR T rs)
theorem one_pm {w : World} {A : Addr} {p : Pm} (h : ∀ j u, (pmC p)[j]? = some u → w.cell? (A.add j) = some u) : w.cell? ⟨A.block, A.off + 1, none⟩ = some (.int .i64 p.t) := by
  have h1 := h 1 _ rfl
  rw [Addr.add_succ'] at h1
  simpa only [Nat.zero_add, Nat.reduceAdd] using h1
theorem holds_in {T : List Tt} {a : Int} (h : holdsA T a = true) : inT T.length a = true := by
  unfold holdsA at h
  simp only [Bool.and_eq_true] at h
  exact h.1
theorem cell_form {w W : World} {ad : Addr} {T : List Tt} {q : Nat} {B2 : Addr} (H : Tab w (some ad) T) (hW : w.grownBy W none) (hq : q < T.length) (hB : ad.add (q * 10) = B2) : W.cell? B2 = some (.int .i64 (fmA T (q : Int))) := by
  obtain ⟨x, hx⟩ : ∃ x, T[q]? = some x := ⟨T[q], List.getElem?_eq_getElem hq⟩
  obtain ⟨ad', la, e1, rfl, hcl, hp⟩ := H.at hx
  cases e1
  rw [hB] at hcl
  rw [fmA_at hx]
  exact hW.cell (ten_of hcl).1 (by simp)
set_option maxHeartbeats 16000000 in
theorem one_11a {w : World} {ad B : Addr} {T : List Tt} {i cp : Nat} {md nm : Txt} {ln el ba rs ds : Int} {fl : List Fl} {pr : List Pm} {fo po : Option Addr} {fc pc : Nat} (H : Tab w (some ad) T) (hB : ad.add (i * 10) = B) (hel : ∀ W, w.grownBy W none → ∀ j u, ([.int .i64 11, .string (bs md), .string (bs nm), .int .i64 ln, .int .i64 el, .int .i64 ba, .slice fo fl.length fc, .slice po pr.length pc, .int .i64 rs, .int .i64 ds] : List Value)[j]? = some u → W.cell? (B.add j) = some u) (j1 : (i : Int) < T.length) (hmd : md.length ≤ lim) (hnm : nm.length ≤ lim) (hpo : Cls w po (pr.flatMap pmC)) (hpl : pr.length ≤ 1000000) (hd : ds = 0) (q2 : md = []) (q3 : nm = []) :
    Calls Try.prog 51 #[.slice (some ad) T.length cp, .int .i64 i] w fun e w' => e = .returned (.bool ((ln == 0) && ((el == 0) && ((ba == 0) && ((fl.length == 0) && prB T pr rs))))) ∧ w.grownBy w' none := by
  have HT := hide H
  have HEL := hide hel
  have HC := hide (Cx.start w (fun _ => False))
  have hlen := H.1
  have HW1 := hide (fun W : World => rword_at md W hmd)
  have HW2 := hide (fun W : World => rword_at nm W hnm)
  have M1 := True.intro
  clear H hel hmd hnm
  have d0 : (ds != 0) = false := by simpa using hd
  have HPo := hide hpo
  have kp : (pr.length : Int) ≤ 1000000 := by omega
  clear hpo hpl
  have p2 := em_t q2
  have p3 := em_t q3
  clear q2 q3
  by_cases h_ln : ln = 0
  case neg =>
    have b_ln : (ln != 0) = true := by simpa using h_ln
    (go_enter Try.func51, Try.ntmps51; go_upto_region 2 with (first | (refine at_load 48 rfl ?_; refine wl_run rfl 48 _ rfl rfl (run_load_s tyT _ [.int .i64 11, .string (bs md), .string (bs nm), .int .i64 ln, .int .i64 el, .int .i64 ba, .slice fo fl.length fc, .slice po pr.length pc, .int .i64 rs, .int .i64 ds] rfl (HEL.out _ HC.out.grown)) ?_) | (refine at_alloc 48 rfl ?_; refine wl_alloc rfl 48 rfl _ zTy HC.out ?_; intro bt w' hn hc; (replace HC := hide hc; clear hc)) | ((refine at_store 48 rfl ?_; refine wl_store rfl 48 _ _ rfl rfl rfl tyT.sz rfl HC.out (by repeat (first | exact List.Mem.head _ | apply List.Mem.tail)) (by exact PutS.all _ _ rfl) (by repeat (first | exact Upd.here _ _ _ | apply Upd.there)) ?_; intro w' hc; (replace HC := hide hc; clear hc)); (obtain ⟨c0, c1, c2, c3, c4, c5, c6, c7, c8, c9⟩ := ten_f HC.out))))
    go_wp2_with (first | (clear M1; go_at_call 79; refine (HW1.out _).mono ?_; rintro e w' ⟨rfl, hw⟩; replace hw := hw.symm; subst hw) | (go_at_call 79; refine (HW2.out _).mono ?_; rintro e w' ⟨rfl, hw⟩; replace hw := hw.symm; subst hw) | (go_at_call 80; refine (holds_at _ _ (HT.out.kept HC.out.grown)).mono ?_; rw [HH.out]; rintro e w' ⟨rfl, hw⟩; replace hw := hw.symm; subst hw) | (go_at_call 81; refine (place_at _ _ _ _ _ (by omega)).mono ?_; rw [HI.out]; rintro e w' ⟨rfl, hw⟩; replace hw := hw.symm; subst hw))
    go_ret
    exact ⟨by simp [h_ln], HC.out.grown⟩
  have b_ln : (ln != 0) = false := by simpa using h_ln
  by_cases h_el : el = 0
  case neg =>
    have b_el : (el != 0) = true := by simpa using h_el
    (go_enter Try.func51, Try.ntmps51; go_upto_region 2 with (first | (refine at_load 48 rfl ?_; refine wl_run rfl 48 _ rfl rfl (run_load_s tyT _ [.int .i64 11, .string (bs md), .string (bs nm), .int .i64 ln, .int .i64 el, .int .i64 ba, .slice fo fl.length fc, .slice po pr.length pc, .int .i64 rs, .int .i64 ds] rfl (HEL.out _ HC.out.grown)) ?_) | (refine at_alloc 48 rfl ?_; refine wl_alloc rfl 48 rfl _ zTy HC.out ?_; intro bt w' hn hc; (replace HC := hide hc; clear hc)) | ((refine at_store 48 rfl ?_; refine wl_store rfl 48 _ _ rfl rfl rfl tyT.sz rfl HC.out (by repeat (first | exact List.Mem.head _ | apply List.Mem.tail)) (by exact PutS.all _ _ rfl) (by repeat (first | exact Upd.here _ _ _ | apply Upd.there)) ?_; intro w' hc; (replace HC := hide hc; clear hc)); (obtain ⟨c0, c1, c2, c3, c4, c5, c6, c7, c8, c9⟩ := ten_f HC.out))))
    go_wp2_with (first | (clear M1; go_at_call 79; refine (HW1.out _).mono ?_; rintro e w' ⟨rfl, hw⟩; replace hw := hw.symm; subst hw) | (go_at_call 79; refine (HW2.out _).mono ?_; rintro e w' ⟨rfl, hw⟩; replace hw := hw.symm; subst hw) | (go_at_call 80; refine (holds_at _ _ (HT.out.kept HC.out.grown)).mono ?_; rw [HH.out]; rintro e w' ⟨rfl, hw⟩; replace hw := hw.symm; subst hw) | (go_at_call 81; refine (place_at _ _ _ _ _ (by omega)).mono ?_; rw [HI.out]; rintro e w' ⟨rfl, hw⟩; replace hw := hw.symm; subst hw))
    go_ret
    exact ⟨by simp [h_el], HC.out.grown⟩
  have b_el : (el != 0) = false := by simpa using h_el
  by_cases h_ba : ba = 0
  case neg =>
    have b_ba : (ba != 0) = true := by simpa using h_ba
    (go_enter Try.func51, Try.ntmps51; go_upto_region 2 with (first | (refine at_load 48 rfl ?_; refine wl_run rfl 48 _ rfl rfl (run_load_s tyT _ [.int .i64 11, .string (bs md), .string (bs nm), .int .i64 ln, .int .i64 el, .int .i64 ba, .slice fo fl.length fc, .slice po pr.length pc, .int .i64 rs, .int .i64 ds] rfl (HEL.out _ HC.out.grown)) ?_) | (refine at_alloc 48 rfl ?_; refine wl_alloc rfl 48 rfl _ zTy HC.out ?_; intro bt w' hn hc; (replace HC := hide hc; clear hc)) | ((refine at_store 48 rfl ?_; refine wl_store rfl 48 _ _ rfl rfl rfl tyT.sz rfl HC.out (by repeat (first | exact List.Mem.head _ | apply List.Mem.tail)) (by exact PutS.all _ _ rfl) (by repeat (first | exact Upd.here _ _ _ | apply Upd.there)) ?_; intro w' hc; (replace HC := hide hc; clear hc)); (obtain ⟨c0, c1, c2, c3, c4, c5, c6, c7, c8, c9⟩ := ten_f HC.out))))
    go_wp2_with (first | (clear M1; go_at_call 79; refine (HW1.out _).mono ?_; rintro e w' ⟨rfl, hw⟩; replace hw := hw.symm; subst hw) | (go_at_call 79; refine (HW2.out _).mono ?_; rintro e w' ⟨rfl, hw⟩; replace hw := hw.symm; subst hw) | (go_at_call 80; refine (holds_at _ _ (HT.out.kept HC.out.grown)).mono ?_; rw [HH.out]; rintro e w' ⟨rfl, hw⟩; replace hw := hw.symm; subst hw) | (go_at_call 81; refine (place_at _ _ _ _ _ (by omega)).mono ?_; rw [HI.out]; rintro e w' ⟨rfl, hw⟩; replace hw := hw.symm; subst hw))
    go_ret
    exact ⟨by simp [h_ba], HC.out.grown⟩
  have b_ba : (ba != 0) = false := by simpa using h_ba
  by_cases h_fl : fl.length = 0
  case neg =>
    have b_fl : (0 : Int) < fl.length := by omega
    (go_enter Try.func51, Try.ntmps51; go_upto_region 2 with (first | (refine at_load 48 rfl ?_; refine wl_run rfl 48 _ rfl rfl (run_load_s tyT _ [.int .i64 11, .string (bs md), .string (bs nm), .int .i64 ln, .int .i64 el, .int .i64 ba, .slice fo fl.length fc, .slice po pr.length pc, .int .i64 rs, .int .i64 ds] rfl (HEL.out _ HC.out.grown)) ?_) | (refine at_alloc 48 rfl ?_; refine wl_alloc rfl 48 rfl _ zTy HC.out ?_; intro bt w' hn hc; (replace HC := hide hc; clear hc)) | ((refine at_store 48 rfl ?_; refine wl_store rfl 48 _ _ rfl rfl rfl tyT.sz rfl HC.out (by repeat (first | exact List.Mem.head _ | apply List.Mem.tail)) (by exact PutS.all _ _ rfl) (by repeat (first | exact Upd.here _ _ _ | apply Upd.there)) ?_; intro w' hc; (replace HC := hide hc; clear hc)); (obtain ⟨c0, c1, c2, c3, c4, c5, c6, c7, c8, c9⟩ := ten_f HC.out))))
    go_wp2_with (first | (clear M1; go_at_call 79; refine (HW1.out _).mono ?_; rintro e w' ⟨rfl, hw⟩; replace hw := hw.symm; subst hw) | (go_at_call 79; refine (HW2.out _).mono ?_; rintro e w' ⟨rfl, hw⟩; replace hw := hw.symm; subst hw) | (go_at_call 80; refine (holds_at _ _ (HT.out.kept HC.out.grown)).mono ?_; rw [HH.out]; rintro e w' ⟨rfl, hw⟩; replace hw := hw.symm; subst hw) | (go_at_call 81; refine (place_at _ _ _ _ _ (by omega)).mono ?_; rw [HI.out]; rintro e w' ⟨rfl, hw⟩; replace hw := hw.symm; subst hw))
    go_ret
    exact ⟨by simp [h_fl], HC.out.grown⟩
  have b_fl : ¬ (0 : Int) < fl.length := by omega
  have HE := hide (show ((ln == 0) && ((el == 0) && ((ba == 0) && ((fl.length == 0) && prB T pr rs)))) = prB T pr rs by simp [h_ln, h_el, h_ba, h_fl])
  rw [HE.out]
  clear HE
  (go_enter Try.func51, Try.ntmps51; go_upto_region 2 with (first | (refine at_load 48 rfl ?_; refine wl_run rfl 48 _ rfl rfl (run_load_s tyT _ [.int .i64 11, .string (bs md), .string (bs nm), .int .i64 ln, .int .i64 el, .int .i64 ba, .slice fo fl.length fc, .slice po pr.length pc, .int .i64 rs, .int .i64 ds] rfl (HEL.out _ HC.out.grown)) ?_) | (refine at_alloc 48 rfl ?_; refine wl_alloc rfl 48 rfl _ zTy HC.out ?_; intro bt w' hn hc; (replace HC := hide hc; clear hc)) | ((refine at_store 48 rfl ?_; refine wl_store rfl 48 _ _ rfl rfl rfl tyT.sz rfl HC.out (by repeat (first | exact List.Mem.head _ | apply List.Mem.tail)) (by exact PutS.all _ _ rfl) (by repeat (first | exact Upd.here _ _ _ | apply Upd.there)) ?_; intro w' hc; (replace HC := hide hc; clear hc)); (obtain ⟨c0, c1, c2, c3, c4, c5, c6, c7, c8, c9⟩ := ten_f HC.out))))
  go_wp2_with (first | (clear M1; go_at_call 79; refine (HW1.out _).mono ?_; rintro e w' ⟨rfl, hw⟩; replace hw := hw.symm; subst hw) | (go_at_call 79; refine (HW2.out _).mono ?_; rintro e w' ⟨rfl, hw⟩; replace hw := hw.symm; subst hw) | (go_at_call 80; refine (holds_at _ _ (HT.out.kept HC.out.grown)).mono ?_; rw [HH.out]; rintro e w' ⟨rfl, hw⟩; replace hw := hw.symm; subst hw) | (go_at_call 81; refine (place_at _ _ _ _ _ (by omega)).mono ?_; rw [HI.out]; rintro e w' ⟨rfl, hw⟩; replace hw := hw.symm; subst hw))
  go_loop [6] (fun iv => ∃ k : Nat, k ≤ pr.length ∧ iv = .int .i64 k ∧ Hid ((pr.take k).all (pmR T) = true)) (fun iv => pr.length - (intOf iv).toNat)
  case atStart => exact ⟨0, by omega, rfl, hide rfl⟩
  case round =>
    obtain ⟨k, hk, rfl, HA⟩ := hrel
    by_cases hlt : k < pr.length
    · have r1 : (k : Int) < pr.length := by omega
      obtain ⟨⟨v, t⟩, hx⟩ : ∃ p, pr[k]? = some p := ⟨pr[k], List.getElem?_eq_getElem hlt⟩
      obtain ⟨pd, rfl, hel⟩ := HPo.out.el pmC_len (by decide) hx
      obtain ⟨B3, hB3⟩ : ∃ B, pd.add (k * 2) = B := ⟨_, rfl⟩
      rw [hB3] at hel
      have g1 := HC.out.grown.cell (one_pm hel) (by simp)
      have gl := block_lt_of_cell g1
      have HX := hide hx
      dsimp only at g1
      clear hel hx
      cases hh : holdsA T t with
      | true =>
        have HH := hide hh
        have HF := hide (show pmR T ⟨v, t⟩ = true by unfold pmR; rw [hh]; rfl)
        clear hh
        go_wp2_with (first | (clear M1; go_at_call 79; refine (HW1.out _).mono ?_; rintro e w' ⟨rfl, hw⟩; replace hw := hw.symm; subst hw) | (go_at_call 79; refine (HW2.out _).mono ?_; rintro e w' ⟨rfl, hw⟩; replace hw := hw.symm; subst hw) | (go_at_call 80; refine (holds_at _ _ (HT.out.kept HC.out.grown)).mono ?_; rw [HH.out]; rintro e w' ⟨rfl, hw⟩; replace hw := hw.symm; subst hw) | (go_at_call 81; refine (place_at _ _ _ _ _ (by omega)).mono ?_; rw [HI.out]; rintro e w' ⟨rfl, hw⟩; replace hw := hw.symm; subst hw))
        exact ⟨⟨k + 1, by omega, by go_num, hide (all_go HX.out HA.out HF.out)⟩, by simp [intOf]; omega⟩
      | false =>
        have HH := hide hh
        cases hin : inT T.length t with
        | false =>
          have HI := hide hin
          have HF := hide (show pmR T ⟨v, t⟩ = false by unfold pmR; rw [hh, hin]; rfl)
          clear hh hin
          go_wp2_with (first | (clear M1; go_at_call 79; refine (HW1.out _).mono ?_; rintro e w' ⟨rfl, hw⟩; replace hw := hw.symm; subst hw) | (go_at_call 79; refine (HW2.out _).mono ?_; rintro e w' ⟨rfl, hw⟩; replace hw := hw.symm; subst hw) | (go_at_call 80; refine (holds_at _ _ (HT.out.kept HC.out.grown)).mono ?_; rw [HH.out]; rintro e w' ⟨rfl, hw⟩; replace hw := hw.symm; subst hw) | (go_at_call 81; refine (place_at _ _ _ _ _ (by omega)).mono ?_; rw [HI.out]; rintro e w' ⟨rfl, hw⟩; replace hw := hw.symm; subst hw))
          go_ret
          exact ⟨by unfold prB; rw [all_no HX.out HF.out]; rfl, HC.out.grown⟩
        | true =>
          have HI := hide hin
          have hin' := hin
          unfold inT at hin'
          simp only [Bool.and_eq_true, decide_eq_true_eq] at hin'
          obtain ⟨q, rfl⟩ := Int.eq_ofNat_of_zero_le hin'.1
          have q2 : (q : Int) < T.length := hin'.2
          obtain ⟨B2, hB2⟩ : ∃ B, ad.add (q * 10) = B := ⟨_, rfl⟩
          have e0 := cell_form HT.out HC.out.grown (show q < T.length by omega) hB2
          have bl2 := block_lt_of_cell e0
          obtain ⟨f, hf⟩ : ∃ f, fmA T (q : Int) = f := ⟨_, rfl⟩
          rw [hf] at e0
          by_cases f8 : f = 8
          · have HF := hide (show pmR T ⟨v, (q : Int)⟩ = true by unfold pmR; dsimp only; rw [hh, hin, hf, f8]; rfl)
            rw [f8] at e0
            clear hh hin hin' hf f8
            go_wp2_with (first | (clear M1; go_at_call 79; refine (HW1.out _).mono ?_; rintro e w' ⟨rfl, hw⟩; replace hw := hw.symm; subst hw) | (go_at_call 79; refine (HW2.out _).mono ?_; rintro e w' ⟨rfl, hw⟩; replace hw := hw.symm; subst hw) | (go_at_call 80; refine (holds_at _ _ (HT.out.kept HC.out.grown)).mono ?_; rw [HH.out]; rintro e w' ⟨rfl, hw⟩; replace hw := hw.symm; subst hw) | (go_at_call 81; refine (place_at _ _ _ _ _ (by omega)).mono ?_; rw [HI.out]; rintro e w' ⟨rfl, hw⟩; replace hw := hw.symm; subst hw))
            exact ⟨⟨k + 1, by omega, by go_num, hide (all_go HX.out HA.out HF.out)⟩, by simp [intOf]; omega⟩
          · have HF := hide (show pmR T ⟨v, (q : Int)⟩ = false by unfold pmR; dsimp only; rw [hh, hin, hf]; simpa using f8)
            have f8b : (f != 8) = true := by simpa using f8
            clear hh hin hin' hf f8
            go_wp2_with (first | (clear M1; go_at_call 79; refine (HW1.out _).mono ?_; rintro e w' ⟨rfl, hw⟩; replace hw := hw.symm; subst hw) | (go_at_call 79; refine (HW2.out _).mono ?_; rintro e w' ⟨rfl, hw⟩; replace hw := hw.symm; subst hw) | (go_at_call 80; refine (holds_at _ _ (HT.out.kept HC.out.grown)).mono ?_; rw [HH.out]; rintro e w' ⟨rfl, hw⟩; replace hw := hw.symm; subst hw) | (go_at_call 81; refine (place_at _ _ _ _ _ (by omega)).mono ?_; rw [HI.out]; rintro e w' ⟨rfl, hw⟩; replace hw := hw.symm; subst hw))
            go_ret
            exact ⟨by unfold prB; rw [all_no HX.out HF.out]; rfl, HC.out.grown⟩
    · obtain rfl : k = pr.length := by omega
      rw [List.take_of_length_le (Nat.le_refl _)] at HA
      by_cases l64 : pr.length ≤ 64
      case neg =>
        have L := hide l64
        have k64 : ¬ (pr.length : Int) ≤ 64 := by omega
        go_wp2_with (first | (clear M1; go_at_call 79; refine (HW1.out _).mono ?_; rintro e w' ⟨rfl, hw⟩; replace hw := hw.symm; subst hw) | (go_at_call 79; refine (HW2.out _).mono ?_; rintro e w' ⟨rfl, hw⟩; replace hw := hw.symm; subst hw) | (go_at_call 80; refine (holds_at _ _ (HT.out.kept HC.out.grown)).mono ?_; rw [HH.out]; rintro e w' ⟨rfl, hw⟩; replace hw := hw.symm; subst hw) | (go_at_call 81; refine (place_at _ _ _ _ _ (by omega)).mono ?_; rw [HI.out]; rintro e w' ⟨rfl, hw⟩; replace hw := hw.symm; subst hw))
        go_ret
        exact ⟨by unfold prB; rw [HA.out, decide_eq_false (p := pr.length ≤ 64) (by have := L.out; omega)]; rfl, HC.out.grown⟩
      have L := hide l64
      have k64 : (pr.length : Int) ≤ 64 := by omega
      by_cases h_rs : rs = 0
      · have HR := hide (show resR T rs = true by unfold resR; rw [h_rs]; rfl)
        have b_rs : (rs == 0) = true := by simpa using h_rs
        go_wp2_with (first | (clear M1; go_at_call 79; refine (HW1.out _).mono ?_; rintro e w' ⟨rfl, hw⟩; replace hw := hw.symm; subst hw) | (go_at_call 79; refine (HW2.out _).mono ?_; rintro e w' ⟨rfl, hw⟩; replace hw := hw.symm; subst hw) | (go_at_call 80; refine (holds_at _ _ (HT.out.kept HC.out.grown)).mono ?_; rw [HH.out]; rintro e w' ⟨rfl, hw⟩; replace hw := hw.symm; subst hw) | (go_at_call 81; refine (place_at _ _ _ _ _ (by omega)).mono ?_; rw [HI.out]; rintro e w' ⟨rfl, hw⟩; replace hw := hw.symm; subst hw))
        go_ret
        exact ⟨by unfold prB; rw [HA.out, decide_eq_true (p := pr.length ≤ 64) (by have := L.out; omega), show resR T 0 = true from rfl]; rfl, HC.out.grown⟩
      have b_rs : (rs == 0) = false := by simpa using h_rs
      cases hh : holdsA T rs with
      | false =>
        have HH := hide hh
        have HR := hide (show resR T rs = false by unfold resR; rw [b_rs, hh]; rfl)
        clear hh
        go_wp2_with (first | (clear M1; go_at_call 79; refine (HW1.out _).mono ?_; rintro e w' ⟨rfl, hw⟩; replace hw := hw.symm; subst hw) | (go_at_call 79; refine (HW2.out _).mono ?_; rintro e w' ⟨rfl, hw⟩; replace hw := hw.symm; subst hw) | (go_at_call 80; refine (holds_at _ _ (HT.out.kept HC.out.grown)).mono ?_; rw [HH.out]; rintro e w' ⟨rfl, hw⟩; replace hw := hw.symm; subst hw) | (go_at_call 81; refine (place_at _ _ _ _ _ (by omega)).mono ?_; rw [HI.out]; rintro e w' ⟨rfl, hw⟩; replace hw := hw.symm; subst hw))
        go_ret
        exact ⟨by unfold prB; rw [HA.out, HR.out]; simp, HC.out.grown⟩
      | true =>
        have HH := hide hh
        have hin' := holds_in hh
        unfold inT at hin'
        simp only [Bool.and_eq_true, decide_eq_true_eq] at hin'
        obtain ⟨q, rfl⟩ := Int.eq_ofNat_of_zero_le hin'.1
        have q2 : (q : Int) < T.length := hin'.2
        obtain ⟨B2, hB2⟩ : ∃ B, ad.add (q * 10) = B := ⟨_, rfl⟩
        have e0 := cell_form HT.out HC.out.grown (show q < T.length by omega) hB2
        have bl2 := block_lt_of_cell e0
        obtain ⟨f, hf⟩ : ∃ f, fmA T (q : Int) = f := ⟨_, rfl⟩
        rw [hf] at e0
        have HR := hide (show resR T (q : Int) = (f != 7 && f != 9) by unfold resR; rw [b_rs, hh, hf]; rfl)
        clear hh hin' hf
        by_cases f7 : f = 7
        · subst f7
          go_wp2_with (first | (clear M1; go_at_call 79; refine (HW1.out _).mono ?_; rintro e w' ⟨rfl, hw⟩; replace hw := hw.symm; subst hw) | (go_at_call 79; refine (HW2.out _).mono ?_; rintro e w' ⟨rfl, hw⟩; replace hw := hw.symm; subst hw) | (go_at_call 80; refine (holds_at _ _ (HT.out.kept HC.out.grown)).mono ?_; rw [HH.out]; rintro e w' ⟨rfl, hw⟩; replace hw := hw.symm; subst hw) | (go_at_call 81; refine (place_at _ _ _ _ _ (by omega)).mono ?_; rw [HI.out]; rintro e w' ⟨rfl, hw⟩; replace hw := hw.symm; subst hw))
          go_ret
          exact ⟨by unfold prB; rw [HA.out, HR.out]; simp, HC.out.grown⟩
        have f7b : (f != 7) = true := by simpa using f7
        by_cases f9 : f = 9
        · subst f9
          go_wp2_with (first | (clear M1; go_at_call 79; refine (HW1.out _).mono ?_; rintro e w' ⟨rfl, hw⟩; replace hw := hw.symm; subst hw) | (go_at_call 79; refine (HW2.out _).mono ?_; rintro e w' ⟨rfl, hw⟩; replace hw := hw.symm; subst hw) | (go_at_call 80; refine (holds_at _ _ (HT.out.kept HC.out.grown)).mono ?_; rw [HH.out]; rintro e w' ⟨rfl, hw⟩; replace hw := hw.symm; subst hw) | (go_at_call 81; refine (place_at _ _ _ _ _ (by omega)).mono ?_; rw [HI.out]; rintro e w' ⟨rfl, hw⟩; replace hw := hw.symm; subst hw))
          go_ret
          exact ⟨by unfold prB; rw [HA.out, HR.out]; simp, HC.out.grown⟩
        have f9b : (f != 9) = true := by simpa using f9
        go_wp2_with (first | (clear M1; go_at_call 79; refine (HW1.out _).mono ?_; rintro e w' ⟨rfl, hw⟩; replace hw := hw.symm; subst hw) | (go_at_call 79; refine (HW2.out _).mono ?_; rintro e w' ⟨rfl, hw⟩; replace hw := hw.symm; subst hw) | (go_at_call 80; refine (holds_at _ _ (HT.out.kept HC.out.grown)).mono ?_; rw [HH.out]; rintro e w' ⟨rfl, hw⟩; replace hw := hw.symm; subst hw) | (go_at_call 81; refine (place_at _ _ _ _ _ (by omega)).mono ?_; rw [HI.out]; rintro e w' ⟨rfl, hw⟩; replace hw := hw.symm; subst hw))
        go_ret
        exact ⟨by unfold prB; rw [HA.out, HR.out, decide_eq_true (p := pr.length ≤ 64) (by have := L.out; omega), f7b, f9b]; rfl, HC.out.grown⟩
set_option maxHeartbeats 16000000 in
theorem one_11b {w : World} {ad B : Addr} {T : List Tt} {i cp : Nat} {md nm : Txt} {ln el ba rs ds : Int} {fl : List Fl} {pr : List Pm} {fo po : Option Addr} {fc pc : Nat} (H : Tab w (some ad) T) (hB : ad.add (i * 10) = B) (hel : ∀ W, w.grownBy W none → ∀ j u, ([.int .i64 11, .string (bs md), .string (bs nm), .int .i64 ln, .int .i64 el, .int .i64 ba, .slice fo fl.length fc, .slice po pr.length pc, .int .i64 rs, .int .i64 ds] : List Value)[j]? = some u → W.cell? (B.add j) = some u) (j1 : (i : Int) < T.length) (hmd : md.length ≤ lim) (hnm : nm.length ≤ lim) (hpo : Cls w po (pr.flatMap pmC)) (hpl : pr.length ≤ 1000000) (hd : ds = 0) (q2 : ¬ md = []) (q3 : ¬ nm = []) (w1 : wordB md = true) (w2 : wordB nm = true) :
    Calls Try.prog 51 #[.slice (some ad) T.length cp, .int .i64 i] w fun e w' => e = .returned (.bool ((ln == 0) && ((el == 0) && ((ba == 0) && ((fl.length == 0) && prB T pr rs))))) ∧ w.grownBy w' none := by
  have HT := hide H
  have HEL := hide hel
  have HC := hide (Cx.start w (fun _ => False))
  have hlen := H.1
  have HW1 := hide (fun W : World => rword_at md W hmd)
  have HW2 := hide (fun W : World => rword_at nm W hnm)
  have M1 := True.intro
  clear H hel hmd hnm
  have d0 : (ds != 0) = false := by simpa using hd
  have HPo := hide hpo
  have kp : (pr.length : Int) ≤ 1000000 := by omega
  clear hpo hpl
  have p2 := em_f q2
  have p3 := em_f q3
  have m2 := em_e q2
  have m3 := em_e q3
  rw [w1] at HW1
  rw [w2] at HW2
  clear q2 q3 w1 w2
  by_cases h_ln : ln = 0
  case neg =>
    have b_ln : (ln != 0) = true := by simpa using h_ln
    (go_enter Try.func51, Try.ntmps51; go_upto_region 2 with (first | (refine at_load 48 rfl ?_; refine wl_run rfl 48 _ rfl rfl (run_load_s tyT _ [.int .i64 11, .string (bs md), .string (bs nm), .int .i64 ln, .int .i64 el, .int .i64 ba, .slice fo fl.length fc, .slice po pr.length pc, .int .i64 rs, .int .i64 ds] rfl (HEL.out _ HC.out.grown)) ?_) | (refine at_alloc 48 rfl ?_; refine wl_alloc rfl 48 rfl _ zTy HC.out ?_; intro bt w' hn hc; (replace HC := hide hc; clear hc)) | ((refine at_store 48 rfl ?_; refine wl_store rfl 48 _ _ rfl rfl rfl tyT.sz rfl HC.out (by repeat (first | exact List.Mem.head _ | apply List.Mem.tail)) (by exact PutS.all _ _ rfl) (by repeat (first | exact Upd.here _ _ _ | apply Upd.there)) ?_; intro w' hc; (replace HC := hide hc; clear hc)); (obtain ⟨c0, c1, c2, c3, c4, c5, c6, c7, c8, c9⟩ := ten_f HC.out))))
    go_wp2_with (first | (clear M1; go_at_call 79; refine (HW1.out _).mono ?_; rintro e w' ⟨rfl, hw⟩; replace hw := hw.symm; subst hw) | (go_at_call 79; refine (HW2.out _).mono ?_; rintro e w' ⟨rfl, hw⟩; replace hw := hw.symm; subst hw) | (go_at_call 80; refine (holds_at _ _ (HT.out.kept HC.out.grown)).mono ?_; rw [HH.out]; rintro e w' ⟨rfl, hw⟩; replace hw := hw.symm; subst hw) | (go_at_call 81; refine (place_at _ _ _ _ _ (by omega)).mono ?_; rw [HI.out]; rintro e w' ⟨rfl, hw⟩; replace hw := hw.symm; subst hw))
    go_ret
    exact ⟨by simp [h_ln], HC.out.grown⟩
  have b_ln : (ln != 0) = false := by simpa using h_ln
  by_cases h_el : el = 0
  case neg =>
    have b_el : (el != 0) = true := by simpa using h_el
    (go_enter Try.func51, Try.ntmps51; go_upto_region 2 with (first | (refine at_load 48 rfl ?_; refine wl_run rfl 48 _ rfl rfl (run_load_s tyT _ [.int .i64 11, .string (bs md), .string (bs nm), .int .i64 ln, .int .i64 el, .int .i64 ba, .slice fo fl.length fc, .slice po pr.length pc, .int .i64 rs, .int .i64 ds] rfl (HEL.out _ HC.out.grown)) ?_) | (refine at_alloc 48 rfl ?_; refine wl_alloc rfl 48 rfl _ zTy HC.out ?_; intro bt w' hn hc; (replace HC := hide hc; clear hc)) | ((refine at_store 48 rfl ?_; refine wl_store rfl 48 _ _ rfl rfl rfl tyT.sz rfl HC.out (by repeat (first | exact List.Mem.head _ | apply List.Mem.tail)) (by exact PutS.all _ _ rfl) (by repeat (first | exact Upd.here _ _ _ | apply Upd.there)) ?_; intro w' hc; (replace HC := hide hc; clear hc)); (obtain ⟨c0, c1, c2, c3, c4, c5, c6, c7, c8, c9⟩ := ten_f HC.out))))
    go_wp2_with (first | (clear M1; go_at_call 79; refine (HW1.out _).mono ?_; rintro e w' ⟨rfl, hw⟩; replace hw := hw.symm; subst hw) | (go_at_call 79; refine (HW2.out _).mono ?_; rintro e w' ⟨rfl, hw⟩; replace hw := hw.symm; subst hw) | (go_at_call 80; refine (holds_at _ _ (HT.out.kept HC.out.grown)).mono ?_; rw [HH.out]; rintro e w' ⟨rfl, hw⟩; replace hw := hw.symm; subst hw) | (go_at_call 81; refine (place_at _ _ _ _ _ (by omega)).mono ?_; rw [HI.out]; rintro e w' ⟨rfl, hw⟩; replace hw := hw.symm; subst hw))
    go_ret
    exact ⟨by simp [h_el], HC.out.grown⟩
  have b_el : (el != 0) = false := by simpa using h_el
  by_cases h_ba : ba = 0
  case neg =>
    have b_ba : (ba != 0) = true := by simpa using h_ba
    (go_enter Try.func51, Try.ntmps51; go_upto_region 2 with (first | (refine at_load 48 rfl ?_; refine wl_run rfl 48 _ rfl rfl (run_load_s tyT _ [.int .i64 11, .string (bs md), .string (bs nm), .int .i64 ln, .int .i64 el, .int .i64 ba, .slice fo fl.length fc, .slice po pr.length pc, .int .i64 rs, .int .i64 ds] rfl (HEL.out _ HC.out.grown)) ?_) | (refine at_alloc 48 rfl ?_; refine wl_alloc rfl 48 rfl _ zTy HC.out ?_; intro bt w' hn hc; (replace HC := hide hc; clear hc)) | ((refine at_store 48 rfl ?_; refine wl_store rfl 48 _ _ rfl rfl rfl tyT.sz rfl HC.out (by repeat (first | exact List.Mem.head _ | apply List.Mem.tail)) (by exact PutS.all _ _ rfl) (by repeat (first | exact Upd.here _ _ _ | apply Upd.there)) ?_; intro w' hc; (replace HC := hide hc; clear hc)); (obtain ⟨c0, c1, c2, c3, c4, c5, c6, c7, c8, c9⟩ := ten_f HC.out))))
    go_wp2_with (first | (clear M1; go_at_call 79; refine (HW1.out _).mono ?_; rintro e w' ⟨rfl, hw⟩; replace hw := hw.symm; subst hw) | (go_at_call 79; refine (HW2.out _).mono ?_; rintro e w' ⟨rfl, hw⟩; replace hw := hw.symm; subst hw) | (go_at_call 80; refine (holds_at _ _ (HT.out.kept HC.out.grown)).mono ?_; rw [HH.out]; rintro e w' ⟨rfl, hw⟩; replace hw := hw.symm; subst hw) | (go_at_call 81; refine (place_at _ _ _ _ _ (by omega)).mono ?_; rw [HI.out]; rintro e w' ⟨rfl, hw⟩; replace hw := hw.symm; subst hw))
    go_ret
    exact ⟨by simp [h_ba], HC.out.grown⟩
  have b_ba : (ba != 0) = false := by simpa using h_ba
  by_cases h_fl : fl.length = 0
  case neg =>
    have b_fl : (0 : Int) < fl.length := by omega
    (go_enter Try.func51, Try.ntmps51; go_upto_region 2 with (first | (refine at_load 48 rfl ?_; refine wl_run rfl 48 _ rfl rfl (run_load_s tyT _ [.int .i64 11, .string (bs md), .string (bs nm), .int .i64 ln, .int .i64 el, .int .i64 ba, .slice fo fl.length fc, .slice po pr.length pc, .int .i64 rs, .int .i64 ds] rfl (HEL.out _ HC.out.grown)) ?_) | (refine at_alloc 48 rfl ?_; refine wl_alloc rfl 48 rfl _ zTy HC.out ?_; intro bt w' hn hc; (replace HC := hide hc; clear hc)) | ((refine at_store 48 rfl ?_; refine wl_store rfl 48 _ _ rfl rfl rfl tyT.sz rfl HC.out (by repeat (first | exact List.Mem.head _ | apply List.Mem.tail)) (by exact PutS.all _ _ rfl) (by repeat (first | exact Upd.here _ _ _ | apply Upd.there)) ?_; intro w' hc; (replace HC := hide hc; clear hc)); (obtain ⟨c0, c1, c2, c3, c4, c5, c6, c7, c8, c9⟩ := ten_f HC.out))))
    go_wp2_with (first | (clear M1; go_at_call 79; refine (HW1.out _).mono ?_; rintro e w' ⟨rfl, hw⟩; replace hw := hw.symm; subst hw) | (go_at_call 79; refine (HW2.out _).mono ?_; rintro e w' ⟨rfl, hw⟩; replace hw := hw.symm; subst hw) | (go_at_call 80; refine (holds_at _ _ (HT.out.kept HC.out.grown)).mono ?_; rw [HH.out]; rintro e w' ⟨rfl, hw⟩; replace hw := hw.symm; subst hw) | (go_at_call 81; refine (place_at _ _ _ _ _ (by omega)).mono ?_; rw [HI.out]; rintro e w' ⟨rfl, hw⟩; replace hw := hw.symm; subst hw))
    go_ret
    exact ⟨by simp [h_fl], HC.out.grown⟩
  have b_fl : ¬ (0 : Int) < fl.length := by omega
  have HE := hide (show ((ln == 0) && ((el == 0) && ((ba == 0) && ((fl.length == 0) && prB T pr rs)))) = prB T pr rs by simp [h_ln, h_el, h_ba, h_fl])
  rw [HE.out]
  clear HE
  (go_enter Try.func51, Try.ntmps51; go_upto_region 2 with (first | (refine at_load 48 rfl ?_; refine wl_run rfl 48 _ rfl rfl (run_load_s tyT _ [.int .i64 11, .string (bs md), .string (bs nm), .int .i64 ln, .int .i64 el, .int .i64 ba, .slice fo fl.length fc, .slice po pr.length pc, .int .i64 rs, .int .i64 ds] rfl (HEL.out _ HC.out.grown)) ?_) | (refine at_alloc 48 rfl ?_; refine wl_alloc rfl 48 rfl _ zTy HC.out ?_; intro bt w' hn hc; (replace HC := hide hc; clear hc)) | ((refine at_store 48 rfl ?_; refine wl_store rfl 48 _ _ rfl rfl rfl tyT.sz rfl HC.out (by repeat (first | exact List.Mem.head _ | apply List.Mem.tail)) (by exact PutS.all _ _ rfl) (by repeat (first | exact Upd.here _ _ _ | apply Upd.there)) ?_; intro w' hc; (replace HC := hide hc; clear hc)); (obtain ⟨c0, c1, c2, c3, c4, c5, c6, c7, c8, c9⟩ := ten_f HC.out))))
  go_wp2_with (first | (clear M1; go_at_call 79; refine (HW1.out _).mono ?_; rintro e w' ⟨rfl, hw⟩; replace hw := hw.symm; subst hw) | (go_at_call 79; refine (HW2.out _).mono ?_; rintro e w' ⟨rfl, hw⟩; replace hw := hw.symm; subst hw) | (go_at_call 80; refine (holds_at _ _ (HT.out.kept HC.out.grown)).mono ?_; rw [HH.out]; rintro e w' ⟨rfl, hw⟩; replace hw := hw.symm; subst hw) | (go_at_call 81; refine (place_at _ _ _ _ _ (by omega)).mono ?_; rw [HI.out]; rintro e w' ⟨rfl, hw⟩; replace hw := hw.symm; subst hw))
  go_loop [6] (fun iv => ∃ k : Nat, k ≤ pr.length ∧ iv = .int .i64 k ∧ Hid ((pr.take k).all (pmR T) = true)) (fun iv => pr.length - (intOf iv).toNat)
  case atStart => exact ⟨0, by omega, rfl, hide rfl⟩
  case round =>
    obtain ⟨k, hk, rfl, HA⟩ := hrel
    by_cases hlt : k < pr.length
    · have r1 : (k : Int) < pr.length := by omega
      obtain ⟨⟨v, t⟩, hx⟩ : ∃ p, pr[k]? = some p := ⟨pr[k], List.getElem?_eq_getElem hlt⟩
      obtain ⟨pd, rfl, hel⟩ := HPo.out.el pmC_len (by decide) hx
      obtain ⟨B3, hB3⟩ : ∃ B, pd.add (k * 2) = B := ⟨_, rfl⟩
      rw [hB3] at hel
      have g1 := HC.out.grown.cell (one_pm hel) (by simp)
      have gl := block_lt_of_cell g1
      have HX := hide hx
      dsimp only at g1
      clear hel hx
      cases hh : holdsA T t with
      | true =>
        have HH := hide hh
        have HF := hide (show pmR T ⟨v, t⟩ = true by unfold pmR; rw [hh]; rfl)
        clear hh
        go_wp2_with (first | (clear M1; go_at_call 79; refine (HW1.out _).mono ?_; rintro e w' ⟨rfl, hw⟩; replace hw := hw.symm; subst hw) | (go_at_call 79; refine (HW2.out _).mono ?_; rintro e w' ⟨rfl, hw⟩; replace hw := hw.symm; subst hw) | (go_at_call 80; refine (holds_at _ _ (HT.out.kept HC.out.grown)).mono ?_; rw [HH.out]; rintro e w' ⟨rfl, hw⟩; replace hw := hw.symm; subst hw) | (go_at_call 81; refine (place_at _ _ _ _ _ (by omega)).mono ?_; rw [HI.out]; rintro e w' ⟨rfl, hw⟩; replace hw := hw.symm; subst hw))
        exact ⟨⟨k + 1, by omega, by go_num, hide (all_go HX.out HA.out HF.out)⟩, by simp [intOf]; omega⟩
      | false =>
        have HH := hide hh
        cases hin : inT T.length t with
        | false =>
          have HI := hide hin
          have HF := hide (show pmR T ⟨v, t⟩ = false by unfold pmR; rw [hh, hin]; rfl)
          clear hh hin
          go_wp2_with (first | (clear M1; go_at_call 79; refine (HW1.out _).mono ?_; rintro e w' ⟨rfl, hw⟩; replace hw := hw.symm; subst hw) | (go_at_call 79; refine (HW2.out _).mono ?_; rintro e w' ⟨rfl, hw⟩; replace hw := hw.symm; subst hw) | (go_at_call 80; refine (holds_at _ _ (HT.out.kept HC.out.grown)).mono ?_; rw [HH.out]; rintro e w' ⟨rfl, hw⟩; replace hw := hw.symm; subst hw) | (go_at_call 81; refine (place_at _ _ _ _ _ (by omega)).mono ?_; rw [HI.out]; rintro e w' ⟨rfl, hw⟩; replace hw := hw.symm; subst hw))
          go_ret
          exact ⟨by unfold prB; rw [all_no HX.out HF.out]; rfl, HC.out.grown⟩
        | true =>
          have HI := hide hin
          have hin' := hin
          unfold inT at hin'
          simp only [Bool.and_eq_true, decide_eq_true_eq] at hin'
          obtain ⟨q, rfl⟩ := Int.eq_ofNat_of_zero_le hin'.1
          have q2 : (q : Int) < T.length := hin'.2
          obtain ⟨B2, hB2⟩ : ∃ B, ad.add (q * 10) = B := ⟨_, rfl⟩
          have e0 := cell_form HT.out HC.out.grown (show q < T.length by omega) hB2
          have bl2 := block_lt_of_cell e0
          obtain ⟨f, hf⟩ : ∃ f, fmA T (q : Int) = f := ⟨_, rfl⟩
          rw [hf] at e0
          by_cases f8 : f = 8
          · have HF := hide (show pmR T ⟨v, (q : Int)⟩ = true by unfold pmR; dsimp only; rw [hh, hin, hf, f8]; rfl)
            rw [f8] at e0
            clear hh hin hin' hf f8
            go_wp2_with (first | (clear M1; go_at_call 79; refine (HW1.out _).mono ?_; rintro e w' ⟨rfl, hw⟩; replace hw := hw.symm; subst hw) | (go_at_call 79; refine (HW2.out _).mono ?_; rintro e w' ⟨rfl, hw⟩; replace hw := hw.symm; subst hw) | (go_at_call 80; refine (holds_at _ _ (HT.out.kept HC.out.grown)).mono ?_; rw [HH.out]; rintro e w' ⟨rfl, hw⟩; replace hw := hw.symm; subst hw) | (go_at_call 81; refine (place_at _ _ _ _ _ (by omega)).mono ?_; rw [HI.out]; rintro e w' ⟨rfl, hw⟩; replace hw := hw.symm; subst hw))
            exact ⟨⟨k + 1, by omega, by go_num, hide (all_go HX.out HA.out HF.out)⟩, by simp [intOf]; omega⟩
          · have HF := hide (show pmR T ⟨v, (q : Int)⟩ = false by unfold pmR; dsimp only; rw [hh, hin, hf]; simpa using f8)
            have f8b : (f != 8) = true := by simpa using f8
            clear hh hin hin' hf f8
            go_wp2_with (first | (clear M1; go_at_call 79; refine (HW1.out _).mono ?_; rintro e w' ⟨rfl, hw⟩; replace hw := hw.symm; subst hw) | (go_at_call 79; refine (HW2.out _).mono ?_; rintro e w' ⟨rfl, hw⟩; replace hw := hw.symm; subst hw) | (go_at_call 80; refine (holds_at _ _ (HT.out.kept HC.out.grown)).mono ?_; rw [HH.out]; rintro e w' ⟨rfl, hw⟩; replace hw := hw.symm; subst hw) | (go_at_call 81; refine (place_at _ _ _ _ _ (by omega)).mono ?_; rw [HI.out]; rintro e w' ⟨rfl, hw⟩; replace hw := hw.symm; subst hw))
            go_ret
            exact ⟨by unfold prB; rw [all_no HX.out HF.out]; rfl, HC.out.grown⟩
    · obtain rfl : k = pr.length := by omega
      rw [List.take_of_length_le (Nat.le_refl _)] at HA
      by_cases l64 : pr.length ≤ 64
      case neg =>
        have L := hide l64
        have k64 : ¬ (pr.length : Int) ≤ 64 := by omega
        go_wp2_with (first | (clear M1; go_at_call 79; refine (HW1.out _).mono ?_; rintro e w' ⟨rfl, hw⟩; replace hw := hw.symm; subst hw) | (go_at_call 79; refine (HW2.out _).mono ?_; rintro e w' ⟨rfl, hw⟩; replace hw := hw.symm; subst hw) | (go_at_call 80; refine (holds_at _ _ (HT.out.kept HC.out.grown)).mono ?_; rw [HH.out]; rintro e w' ⟨rfl, hw⟩; replace hw := hw.symm; subst hw) | (go_at_call 81; refine (place_at _ _ _ _ _ (by omega)).mono ?_; rw [HI.out]; rintro e w' ⟨rfl, hw⟩; replace hw := hw.symm; subst hw))
        go_ret
        exact ⟨by unfold prB; rw [HA.out, decide_eq_false (p := pr.length ≤ 64) (by have := L.out; omega)]; rfl, HC.out.grown⟩
      have L := hide l64
      have k64 : (pr.length : Int) ≤ 64 := by omega
      by_cases h_rs : rs = 0
      · have HR := hide (show resR T rs = true by unfold resR; rw [h_rs]; rfl)
        have b_rs : (rs == 0) = true := by simpa using h_rs
        go_wp2_with (first | (clear M1; go_at_call 79; refine (HW1.out _).mono ?_; rintro e w' ⟨rfl, hw⟩; replace hw := hw.symm; subst hw) | (go_at_call 79; refine (HW2.out _).mono ?_; rintro e w' ⟨rfl, hw⟩; replace hw := hw.symm; subst hw) | (go_at_call 80; refine (holds_at _ _ (HT.out.kept HC.out.grown)).mono ?_; rw [HH.out]; rintro e w' ⟨rfl, hw⟩; replace hw := hw.symm; subst hw) | (go_at_call 81; refine (place_at _ _ _ _ _ (by omega)).mono ?_; rw [HI.out]; rintro e w' ⟨rfl, hw⟩; replace hw := hw.symm; subst hw))
        go_ret
        exact ⟨by unfold prB; rw [HA.out, decide_eq_true (p := pr.length ≤ 64) (by have := L.out; omega), show resR T 0 = true from rfl]; rfl, HC.out.grown⟩
      have b_rs : (rs == 0) = false := by simpa using h_rs
      cases hh : holdsA T rs with
      | false =>
        have HH := hide hh
        have HR := hide (show resR T rs = false by unfold resR; rw [b_rs, hh]; rfl)
        clear hh
        go_wp2_with (first | (clear M1; go_at_call 79; refine (HW1.out _).mono ?_; rintro e w' ⟨rfl, hw⟩; replace hw := hw.symm; subst hw) | (go_at_call 79; refine (HW2.out _).mono ?_; rintro e w' ⟨rfl, hw⟩; replace hw := hw.symm; subst hw) | (go_at_call 80; refine (holds_at _ _ (HT.out.kept HC.out.grown)).mono ?_; rw [HH.out]; rintro e w' ⟨rfl, hw⟩; replace hw := hw.symm; subst hw) | (go_at_call 81; refine (place_at _ _ _ _ _ (by omega)).mono ?_; rw [HI.out]; rintro e w' ⟨rfl, hw⟩; replace hw := hw.symm; subst hw))
        go_ret
        exact ⟨by unfold prB; rw [HA.out, HR.out]; simp, HC.out.grown⟩
      | true =>
        have HH := hide hh
        have hin' := holds_in hh
        unfold inT at hin'
        simp only [Bool.and_eq_true, decide_eq_true_eq] at hin'
        obtain ⟨q, rfl⟩ := Int.eq_ofNat_of_zero_le hin'.1
        have q2 : (q : Int) < T.length := hin'.2
        obtain ⟨B2, hB2⟩ : ∃ B, ad.add (q * 10) = B := ⟨_, rfl⟩
        have e0 := cell_form HT.out HC.out.grown (show q < T.length by omega) hB2
        have bl2 := block_lt_of_cell e0
        obtain ⟨f, hf⟩ : ∃ f, fmA T (q : Int) = f := ⟨_, rfl⟩
        rw [hf] at e0
        have HR := hide (show resR T (q : Int) = (f != 7 && f != 9) by unfold resR; rw [b_rs, hh, hf]; rfl)
        clear hh hin' hf
        by_cases f7 : f = 7
        · subst f7
          go_wp2_with (first | (clear M1; go_at_call 79; refine (HW1.out _).mono ?_; rintro e w' ⟨rfl, hw⟩; replace hw := hw.symm; subst hw) | (go_at_call 79; refine (HW2.out _).mono ?_; rintro e w' ⟨rfl, hw⟩; replace hw := hw.symm; subst hw) | (go_at_call 80; refine (holds_at _ _ (HT.out.kept HC.out.grown)).mono ?_; rw [HH.out]; rintro e w' ⟨rfl, hw⟩; replace hw := hw.symm; subst hw) | (go_at_call 81; refine (place_at _ _ _ _ _ (by omega)).mono ?_; rw [HI.out]; rintro e w' ⟨rfl, hw⟩; replace hw := hw.symm; subst hw))
          go_ret
          exact ⟨by unfold prB; rw [HA.out, HR.out]; simp, HC.out.grown⟩
        have f7b : (f != 7) = true := by simpa using f7
        by_cases f9 : f = 9
        · subst f9
          go_wp2_with (first | (clear M1; go_at_call 79; refine (HW1.out _).mono ?_; rintro e w' ⟨rfl, hw⟩; replace hw := hw.symm; subst hw) | (go_at_call 79; refine (HW2.out _).mono ?_; rintro e w' ⟨rfl, hw⟩; replace hw := hw.symm; subst hw) | (go_at_call 80; refine (holds_at _ _ (HT.out.kept HC.out.grown)).mono ?_; rw [HH.out]; rintro e w' ⟨rfl, hw⟩; replace hw := hw.symm; subst hw) | (go_at_call 81; refine (place_at _ _ _ _ _ (by omega)).mono ?_; rw [HI.out]; rintro e w' ⟨rfl, hw⟩; replace hw := hw.symm; subst hw))
          go_ret
          exact ⟨by unfold prB; rw [HA.out, HR.out]; simp, HC.out.grown⟩
        have f9b : (f != 9) = true := by simpa using f9
        go_wp2_with (first | (clear M1; go_at_call 79; refine (HW1.out _).mono ?_; rintro e w' ⟨rfl, hw⟩; replace hw := hw.symm; subst hw) | (go_at_call 79; refine (HW2.out _).mono ?_; rintro e w' ⟨rfl, hw⟩; replace hw := hw.symm; subst hw) | (go_at_call 80; refine (holds_at _ _ (HT.out.kept HC.out.grown)).mono ?_; rw [HH.out]; rintro e w' ⟨rfl, hw⟩; replace hw := hw.symm; subst hw) | (go_at_call 81; refine (place_at _ _ _ _ _ (by omega)).mono ?_; rw [HI.out]; rintro e w' ⟨rfl, hw⟩; replace hw := hw.symm; subst hw))
        go_ret
        exact ⟨by unfold prB; rw [HA.out, HR.out, decide_eq_true (p := pr.length ≤ 64) (by have := L.out; omega), f7b, f9b]; rfl, HC.out.grown⟩
end Go.Proofs.Ythmldhppmpbadaa.Ty
