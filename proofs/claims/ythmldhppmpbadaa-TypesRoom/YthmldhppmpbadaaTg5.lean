/-
  The document's own tables (package spinetref13): one type, an open array.
-/
import Derived.Test.YthmldhppmpbadaaY15
namespace Go.Proofs.Ythmldhppmpbadaa.Ty
open Go.RowKit hiding Hid
open Go.Maps Go.Proofs.Ythmldhppmpbadaa.Tx Go.Proofs.Ythmldhppmpbadaa.Lx Go.Proofs.Ythmldhppmpbadaa.Tr Go.Proofs.Ythmldhppmpbadaa.Mp
set_option linter.unusedVariables false
set_option linter.unusedSimpArgs false
set_option maxRecDepth 100000

set_option maxHeartbeats 16000000 in
theorem one_8a {w : World} {ad B : Addr} {T : List Tt} {i cp : Nat} {md nm : Txt} {ln el ba rs ds : Int} {fl : List Fl} {pr : List Pm} {fo po : Option Addr} {fc pc : Nat} (H : Tab w (some ad) T) (hB : ad.add (i * 10) = B) (hel : ∀ W, w.grownBy W none → ∀ j u, ([.int .i64 8, .string (bs md), .string (bs nm), .int .i64 ln, .int .i64 el, .int .i64 ba, .slice fo fl.length fc, .slice po pr.length pc, .int .i64 rs, .int .i64 ds] : List Value)[j]? = some u → W.cell? (B.add j) = some u) (j1 : (i : Int) < T.length) (hmd : md.length ≤ lim) (hnm : nm.length ≤ lim) (hd : ds = 0) (q2 : md = []) (q3 : nm = []) :
    Calls Try.prog 51 #[.slice (some ad) T.length cp, .int .i64 i] w fun e w' => e = .returned (.bool ((ln == 0) && ((ba == 0) && ((fl.length == 0) && ((pr.length == 0) && ((rs == 0) && (holdsA T el || (inT T.length el && fmA T el == 8)))))))) ∧ w.grownBy w' none := by
  have HT := hide H
  have HEL := hide hel
  have HC := hide (Cx.start w (fun _ => False))
  have hlen := H.1
  have HW1 := hide (fun W : World => rword_at md W hmd)
  have HW2 := hide (fun W : World => rword_at nm W hnm)
  have M1 := True.intro
  clear H hel hmd hnm
  have d0 : (ds != 0) = false := by simpa using hd
  have p2 := em_t q2
  have p3 := em_t q3
  clear q2 q3
  by_cases h_ln : ln = 0
  case neg =>
    have b_ln : (ln != 0) = true := by simpa using h_ln
    (go_enter Try.func51, Try.ntmps51; go_upto_region 2 with (first | (refine at_load 48 rfl ?_; refine wl_run rfl 48 _ rfl rfl (run_load_s tyT _ [.int .i64 8, .string (bs md), .string (bs nm), .int .i64 ln, .int .i64 el, .int .i64 ba, .slice fo fl.length fc, .slice po pr.length pc, .int .i64 rs, .int .i64 ds] rfl (HEL.out _ HC.out.grown)) ?_) | (refine at_alloc 48 rfl ?_; refine wl_alloc rfl 48 rfl _ zTy HC.out ?_; intro bt w' hn hc; (replace HC := hide hc; clear hc)) | ((refine at_store 48 rfl ?_; refine wl_store rfl 48 _ _ rfl rfl rfl tyT.sz rfl HC.out (by repeat (first | exact List.Mem.head _ | apply List.Mem.tail)) (by exact PutS.all _ _ rfl) (by repeat (first | exact Upd.here _ _ _ | apply Upd.there)) ?_; intro w' hc; (replace HC := hide hc; clear hc)); (obtain ⟨c0, c1, c2, c3, c4, c5, c6, c7, c8, c9⟩ := ten_f HC.out))))
    go_wp2_with (first | (clear M1; go_at_call 79; refine (HW1.out _).mono ?_; rintro e w' ⟨rfl, hw⟩; replace hw := hw.symm; subst hw) | (go_at_call 79; refine (HW2.out _).mono ?_; rintro e w' ⟨rfl, hw⟩; replace hw := hw.symm; subst hw) | (go_at_call 80; refine (holds_at _ _ (HT.out.kept HC.out.grown)).mono ?_; rw [HH.out]; rintro e w' ⟨rfl, hw⟩; replace hw := hw.symm; subst hw) | (go_at_call 81; refine (place_at _ _ _ _ _ (by omega)).mono ?_; rw [HI.out]; rintro e w' ⟨rfl, hw⟩; replace hw := hw.symm; subst hw))
    go_ret
    exact ⟨by simp [h_ln], HC.out.grown⟩
  have b_ln : (ln != 0) = false := by simpa using h_ln
  by_cases h_ba : ba = 0
  case neg =>
    have b_ba : (ba != 0) = true := by simpa using h_ba
    (go_enter Try.func51, Try.ntmps51; go_upto_region 2 with (first | (refine at_load 48 rfl ?_; refine wl_run rfl 48 _ rfl rfl (run_load_s tyT _ [.int .i64 8, .string (bs md), .string (bs nm), .int .i64 ln, .int .i64 el, .int .i64 ba, .slice fo fl.length fc, .slice po pr.length pc, .int .i64 rs, .int .i64 ds] rfl (HEL.out _ HC.out.grown)) ?_) | (refine at_alloc 48 rfl ?_; refine wl_alloc rfl 48 rfl _ zTy HC.out ?_; intro bt w' hn hc; (replace HC := hide hc; clear hc)) | ((refine at_store 48 rfl ?_; refine wl_store rfl 48 _ _ rfl rfl rfl tyT.sz rfl HC.out (by repeat (first | exact List.Mem.head _ | apply List.Mem.tail)) (by exact PutS.all _ _ rfl) (by repeat (first | exact Upd.here _ _ _ | apply Upd.there)) ?_; intro w' hc; (replace HC := hide hc; clear hc)); (obtain ⟨c0, c1, c2, c3, c4, c5, c6, c7, c8, c9⟩ := ten_f HC.out))))
    go_wp2_with (first | (clear M1; go_at_call 79; refine (HW1.out _).mono ?_; rintro e w' ⟨rfl, hw⟩; replace hw := hw.symm; subst hw) | (go_at_call 79; refine (HW2.out _).mono ?_; rintro e w' ⟨rfl, hw⟩; replace hw := hw.symm; subst hw) | (go_at_call 80; refine (holds_at _ _ (HT.out.kept HC.out.grown)).mono ?_; rw [HH.out]; rintro e w' ⟨rfl, hw⟩; replace hw := hw.symm; subst hw) | (go_at_call 81; refine (place_at _ _ _ _ _ (by omega)).mono ?_; rw [HI.out]; rintro e w' ⟨rfl, hw⟩; replace hw := hw.symm; subst hw))
    go_ret
    exact ⟨by simp [h_ba], HC.out.grown⟩
  have b_ba : (ba != 0) = false := by simpa using h_ba
  by_cases h_fl : fl.length = 0
  case neg =>
    have b_fl : (0 : Int) < fl.length := by omega
    (go_enter Try.func51, Try.ntmps51; go_upto_region 2 with (first | (refine at_load 48 rfl ?_; refine wl_run rfl 48 _ rfl rfl (run_load_s tyT _ [.int .i64 8, .string (bs md), .string (bs nm), .int .i64 ln, .int .i64 el, .int .i64 ba, .slice fo fl.length fc, .slice po pr.length pc, .int .i64 rs, .int .i64 ds] rfl (HEL.out _ HC.out.grown)) ?_) | (refine at_alloc 48 rfl ?_; refine wl_alloc rfl 48 rfl _ zTy HC.out ?_; intro bt w' hn hc; (replace HC := hide hc; clear hc)) | ((refine at_store 48 rfl ?_; refine wl_store rfl 48 _ _ rfl rfl rfl tyT.sz rfl HC.out (by repeat (first | exact List.Mem.head _ | apply List.Mem.tail)) (by exact PutS.all _ _ rfl) (by repeat (first | exact Upd.here _ _ _ | apply Upd.there)) ?_; intro w' hc; (replace HC := hide hc; clear hc)); (obtain ⟨c0, c1, c2, c3, c4, c5, c6, c7, c8, c9⟩ := ten_f HC.out))))
    go_wp2_with (first | (clear M1; go_at_call 79; refine (HW1.out _).mono ?_; rintro e w' ⟨rfl, hw⟩; replace hw := hw.symm; subst hw) | (go_at_call 79; refine (HW2.out _).mono ?_; rintro e w' ⟨rfl, hw⟩; replace hw := hw.symm; subst hw) | (go_at_call 80; refine (holds_at _ _ (HT.out.kept HC.out.grown)).mono ?_; rw [HH.out]; rintro e w' ⟨rfl, hw⟩; replace hw := hw.symm; subst hw) | (go_at_call 81; refine (place_at _ _ _ _ _ (by omega)).mono ?_; rw [HI.out]; rintro e w' ⟨rfl, hw⟩; replace hw := hw.symm; subst hw))
    go_ret
    exact ⟨by simp [h_fl], HC.out.grown⟩
  have b_fl : ¬ (0 : Int) < fl.length := by omega
  by_cases h_pr : pr.length = 0
  case neg =>
    have b_pr : (0 : Int) < pr.length := by omega
    (go_enter Try.func51, Try.ntmps51; go_upto_region 2 with (first | (refine at_load 48 rfl ?_; refine wl_run rfl 48 _ rfl rfl (run_load_s tyT _ [.int .i64 8, .string (bs md), .string (bs nm), .int .i64 ln, .int .i64 el, .int .i64 ba, .slice fo fl.length fc, .slice po pr.length pc, .int .i64 rs, .int .i64 ds] rfl (HEL.out _ HC.out.grown)) ?_) | (refine at_alloc 48 rfl ?_; refine wl_alloc rfl 48 rfl _ zTy HC.out ?_; intro bt w' hn hc; (replace HC := hide hc; clear hc)) | ((refine at_store 48 rfl ?_; refine wl_store rfl 48 _ _ rfl rfl rfl tyT.sz rfl HC.out (by repeat (first | exact List.Mem.head _ | apply List.Mem.tail)) (by exact PutS.all _ _ rfl) (by repeat (first | exact Upd.here _ _ _ | apply Upd.there)) ?_; intro w' hc; (replace HC := hide hc; clear hc)); (obtain ⟨c0, c1, c2, c3, c4, c5, c6, c7, c8, c9⟩ := ten_f HC.out))))
    go_wp2_with (first | (clear M1; go_at_call 79; refine (HW1.out _).mono ?_; rintro e w' ⟨rfl, hw⟩; replace hw := hw.symm; subst hw) | (go_at_call 79; refine (HW2.out _).mono ?_; rintro e w' ⟨rfl, hw⟩; replace hw := hw.symm; subst hw) | (go_at_call 80; refine (holds_at _ _ (HT.out.kept HC.out.grown)).mono ?_; rw [HH.out]; rintro e w' ⟨rfl, hw⟩; replace hw := hw.symm; subst hw) | (go_at_call 81; refine (place_at _ _ _ _ _ (by omega)).mono ?_; rw [HI.out]; rintro e w' ⟨rfl, hw⟩; replace hw := hw.symm; subst hw))
    go_ret
    exact ⟨by simp [h_pr], HC.out.grown⟩
  have b_pr : ¬ (0 : Int) < pr.length := by omega
  by_cases h_rs : rs = 0
  case neg =>
    have b_rs : (rs != 0) = true := by simpa using h_rs
    (go_enter Try.func51, Try.ntmps51; go_upto_region 2 with (first | (refine at_load 48 rfl ?_; refine wl_run rfl 48 _ rfl rfl (run_load_s tyT _ [.int .i64 8, .string (bs md), .string (bs nm), .int .i64 ln, .int .i64 el, .int .i64 ba, .slice fo fl.length fc, .slice po pr.length pc, .int .i64 rs, .int .i64 ds] rfl (HEL.out _ HC.out.grown)) ?_) | (refine at_alloc 48 rfl ?_; refine wl_alloc rfl 48 rfl _ zTy HC.out ?_; intro bt w' hn hc; (replace HC := hide hc; clear hc)) | ((refine at_store 48 rfl ?_; refine wl_store rfl 48 _ _ rfl rfl rfl tyT.sz rfl HC.out (by repeat (first | exact List.Mem.head _ | apply List.Mem.tail)) (by exact PutS.all _ _ rfl) (by repeat (first | exact Upd.here _ _ _ | apply Upd.there)) ?_; intro w' hc; (replace HC := hide hc; clear hc)); (obtain ⟨c0, c1, c2, c3, c4, c5, c6, c7, c8, c9⟩ := ten_f HC.out))))
    go_wp2_with (first | (clear M1; go_at_call 79; refine (HW1.out _).mono ?_; rintro e w' ⟨rfl, hw⟩; replace hw := hw.symm; subst hw) | (go_at_call 79; refine (HW2.out _).mono ?_; rintro e w' ⟨rfl, hw⟩; replace hw := hw.symm; subst hw) | (go_at_call 80; refine (holds_at _ _ (HT.out.kept HC.out.grown)).mono ?_; rw [HH.out]; rintro e w' ⟨rfl, hw⟩; replace hw := hw.symm; subst hw) | (go_at_call 81; refine (place_at _ _ _ _ _ (by omega)).mono ?_; rw [HI.out]; rintro e w' ⟨rfl, hw⟩; replace hw := hw.symm; subst hw))
    go_ret
    exact ⟨by simp [h_rs], HC.out.grown⟩
  have b_rs : (rs != 0) = false := by simpa using h_rs
  cases hhe : holdsA T el with
  | true =>
    have HH := hide hhe
    clear hhe
    (go_enter Try.func51, Try.ntmps51; go_upto_region 2 with (first | (refine at_load 48 rfl ?_; refine wl_run rfl 48 _ rfl rfl (run_load_s tyT _ [.int .i64 8, .string (bs md), .string (bs nm), .int .i64 ln, .int .i64 el, .int .i64 ba, .slice fo fl.length fc, .slice po pr.length pc, .int .i64 rs, .int .i64 ds] rfl (HEL.out _ HC.out.grown)) ?_) | (refine at_alloc 48 rfl ?_; refine wl_alloc rfl 48 rfl _ zTy HC.out ?_; intro bt w' hn hc; (replace HC := hide hc; clear hc)) | ((refine at_store 48 rfl ?_; refine wl_store rfl 48 _ _ rfl rfl rfl tyT.sz rfl HC.out (by repeat (first | exact List.Mem.head _ | apply List.Mem.tail)) (by exact PutS.all _ _ rfl) (by repeat (first | exact Upd.here _ _ _ | apply Upd.there)) ?_; intro w' hc; (replace HC := hide hc; clear hc)); (obtain ⟨c0, c1, c2, c3, c4, c5, c6, c7, c8, c9⟩ := ten_f HC.out))))
    go_wp2_with (first | (clear M1; go_at_call 79; refine (HW1.out _).mono ?_; rintro e w' ⟨rfl, hw⟩; replace hw := hw.symm; subst hw) | (go_at_call 79; refine (HW2.out _).mono ?_; rintro e w' ⟨rfl, hw⟩; replace hw := hw.symm; subst hw) | (go_at_call 80; refine (holds_at _ _ (HT.out.kept HC.out.grown)).mono ?_; rw [HH.out]; rintro e w' ⟨rfl, hw⟩; replace hw := hw.symm; subst hw) | (go_at_call 81; refine (place_at _ _ _ _ _ (by omega)).mono ?_; rw [HI.out]; rintro e w' ⟨rfl, hw⟩; replace hw := hw.symm; subst hw))
    go_ret
    exact ⟨by simp [h_ln, h_ba, h_fl, h_pr, h_rs], HC.out.grown⟩
  | false =>
    have HH := hide hhe
    clear hhe
    cases hin : inT T.length el with
    | false =>
      have HI := hide hin
      clear hin
      (go_enter Try.func51, Try.ntmps51; go_upto_region 2 with (first | (refine at_load 48 rfl ?_; refine wl_run rfl 48 _ rfl rfl (run_load_s tyT _ [.int .i64 8, .string (bs md), .string (bs nm), .int .i64 ln, .int .i64 el, .int .i64 ba, .slice fo fl.length fc, .slice po pr.length pc, .int .i64 rs, .int .i64 ds] rfl (HEL.out _ HC.out.grown)) ?_) | (refine at_alloc 48 rfl ?_; refine wl_alloc rfl 48 rfl _ zTy HC.out ?_; intro bt w' hn hc; (replace HC := hide hc; clear hc)) | ((refine at_store 48 rfl ?_; refine wl_store rfl 48 _ _ rfl rfl rfl tyT.sz rfl HC.out (by repeat (first | exact List.Mem.head _ | apply List.Mem.tail)) (by exact PutS.all _ _ rfl) (by repeat (first | exact Upd.here _ _ _ | apply Upd.there)) ?_; intro w' hc; (replace HC := hide hc; clear hc)); (obtain ⟨c0, c1, c2, c3, c4, c5, c6, c7, c8, c9⟩ := ten_f HC.out))))
      go_wp2_with (first | (clear M1; go_at_call 79; refine (HW1.out _).mono ?_; rintro e w' ⟨rfl, hw⟩; replace hw := hw.symm; subst hw) | (go_at_call 79; refine (HW2.out _).mono ?_; rintro e w' ⟨rfl, hw⟩; replace hw := hw.symm; subst hw) | (go_at_call 80; refine (holds_at _ _ (HT.out.kept HC.out.grown)).mono ?_; rw [HH.out]; rintro e w' ⟨rfl, hw⟩; replace hw := hw.symm; subst hw) | (go_at_call 81; refine (place_at _ _ _ _ _ (by omega)).mono ?_; rw [HI.out]; rintro e w' ⟨rfl, hw⟩; replace hw := hw.symm; subst hw))
      go_ret
      exact ⟨by simp [h_ln, h_ba, h_fl, h_pr, h_rs], HC.out.grown⟩
    | true =>
      have HI := hide hin
      unfold inT at hin
      simp only [Bool.and_eq_true, decide_eq_true_eq] at hin
      obtain ⟨q, hq⟩ := Int.eq_ofNat_of_zero_le hin.1
      subst hq
      have q1 : q < T.length := by omega
      have q2 : (q : Int) < T.length := hin.2
      obtain ⟨y, hy⟩ : ∃ y, T[q]? = some y := ⟨T[q], List.getElem?_eq_getElem q1⟩
      obtain ⟨ad', lb, e1, rfl, hcl, hp⟩ := HT.out.at hy
      cases e1
      obtain ⟨B2, hB2⟩ : ∃ B, ad.add (q * 10) = B := ⟨_, rfl⟩
      rw [hB2] at hcl
      have HD0 := hide (fun W (hW : w.grownBy W none) => hW.cell (ten_of hcl).1 (by simp))
      rw [fmA_at hy]
      obtain ⟨f, hf⟩ : ∃ f, lb.x.fm = f := ⟨_, rfl⟩
      rw [hf] at HD0 ⊢
      clear hcl hp hin hy hf
      (go_enter Try.func51, Try.ntmps51; go_upto_region 2 with (first | (refine at_load 48 rfl ?_; refine wl_run rfl 48 _ rfl rfl (run_load_s tyT _ [.int .i64 8, .string (bs md), .string (bs nm), .int .i64 ln, .int .i64 (q : Int), .int .i64 ba, .slice fo fl.length fc, .slice po pr.length pc, .int .i64 rs, .int .i64 ds] rfl (HEL.out _ HC.out.grown)) ?_) | (refine at_alloc 48 rfl ?_; refine wl_alloc rfl 48 rfl _ zTy HC.out ?_; intro bt w' hn hc; (replace HC := hide hc; clear hc)) | ((refine at_store 48 rfl ?_; refine wl_store rfl 48 _ _ rfl rfl rfl tyT.sz rfl HC.out (by repeat (first | exact List.Mem.head _ | apply List.Mem.tail)) (by exact PutS.all _ _ rfl) (by repeat (first | exact Upd.here _ _ _ | apply Upd.there)) ?_; intro w' hc; (replace HC := hide hc; clear hc)); (obtain ⟨c0, c1, c2, c3, c4, c5, c6, c7, c8, c9⟩ := ten_f HC.out))))
      go_upto_region 12 with (first | (clear M1; go_at_call 79; refine (HW1.out _).mono ?_; rintro e w' ⟨rfl, hw⟩; replace hw := hw.symm; subst hw) | (go_at_call 79; refine (HW2.out _).mono ?_; rintro e w' ⟨rfl, hw⟩; replace hw := hw.symm; subst hw) | (go_at_call 80; refine (holds_at _ _ (HT.out.kept HC.out.grown)).mono ?_; rw [HH.out]; rintro e w' ⟨rfl, hw⟩; replace hw := hw.symm; subst hw) | (go_at_call 81; refine (place_at _ _ _ _ _ (by omega)).mono ?_; rw [HI.out]; rintro e w' ⟨rfl, hw⟩; replace hw := hw.symm; subst hw))
      have d0' := HD0.out _ HC.out.grown
      have bl2 := block_lt_of_cell d0'
      go_wp2_with (first | (clear M1; go_at_call 79; refine (HW1.out _).mono ?_; rintro e w' ⟨rfl, hw⟩; replace hw := hw.symm; subst hw) | (go_at_call 79; refine (HW2.out _).mono ?_; rintro e w' ⟨rfl, hw⟩; replace hw := hw.symm; subst hw) | (go_at_call 80; refine (holds_at _ _ (HT.out.kept HC.out.grown)).mono ?_; rw [HH.out]; rintro e w' ⟨rfl, hw⟩; replace hw := hw.symm; subst hw) | (go_at_call 81; refine (place_at _ _ _ _ _ (by omega)).mono ?_; rw [HI.out]; rintro e w' ⟨rfl, hw⟩; replace hw := hw.symm; subst hw))
      go_ret
      exact ⟨by simp [h_ln, h_ba, h_fl, h_pr, h_rs], HC.out.grown⟩
set_option maxHeartbeats 16000000 in
theorem one_8b {w : World} {ad B : Addr} {T : List Tt} {i cp : Nat} {md nm : Txt} {ln el ba rs ds : Int} {fl : List Fl} {pr : List Pm} {fo po : Option Addr} {fc pc : Nat} (H : Tab w (some ad) T) (hB : ad.add (i * 10) = B) (hel : ∀ W, w.grownBy W none → ∀ j u, ([.int .i64 8, .string (bs md), .string (bs nm), .int .i64 ln, .int .i64 el, .int .i64 ba, .slice fo fl.length fc, .slice po pr.length pc, .int .i64 rs, .int .i64 ds] : List Value)[j]? = some u → W.cell? (B.add j) = some u) (j1 : (i : Int) < T.length) (hmd : md.length ≤ lim) (hnm : nm.length ≤ lim) (hd : ds = 0) (q2 : ¬ md = []) (q3 : ¬ nm = []) (w1 : wordB md = true) (w2 : wordB nm = true) :
    Calls Try.prog 51 #[.slice (some ad) T.length cp, .int .i64 i] w fun e w' => e = .returned (.bool ((ln == 0) && ((ba == 0) && ((fl.length == 0) && ((pr.length == 0) && ((rs == 0) && (holdsA T el || (inT T.length el && fmA T el == 8)))))))) ∧ w.grownBy w' none := by
  have HT := hide H
  have HEL := hide hel
  have HC := hide (Cx.start w (fun _ => False))
  have hlen := H.1
  have HW1 := hide (fun W : World => rword_at md W hmd)
  have HW2 := hide (fun W : World => rword_at nm W hnm)
  have M1 := True.intro
  clear H hel hmd hnm
  have d0 : (ds != 0) = false := by simpa using hd
  have p2 := em_f q2
  have p3 := em_f q3
  have m2 := em_e q2
  have m3 := em_e q3
  rw [w1] at HW1
  rw [w2] at HW2
  clear q2 q3 w1 w2
  by_cases h_ln : ln = 0
  case neg =>
    have b_ln : (ln != 0) = true := by simpa using h_ln
    (go_enter Try.func51, Try.ntmps51; go_upto_region 2 with (first | (refine at_load 48 rfl ?_; refine wl_run rfl 48 _ rfl rfl (run_load_s tyT _ [.int .i64 8, .string (bs md), .string (bs nm), .int .i64 ln, .int .i64 el, .int .i64 ba, .slice fo fl.length fc, .slice po pr.length pc, .int .i64 rs, .int .i64 ds] rfl (HEL.out _ HC.out.grown)) ?_) | (refine at_alloc 48 rfl ?_; refine wl_alloc rfl 48 rfl _ zTy HC.out ?_; intro bt w' hn hc; (replace HC := hide hc; clear hc)) | ((refine at_store 48 rfl ?_; refine wl_store rfl 48 _ _ rfl rfl rfl tyT.sz rfl HC.out (by repeat (first | exact List.Mem.head _ | apply List.Mem.tail)) (by exact PutS.all _ _ rfl) (by repeat (first | exact Upd.here _ _ _ | apply Upd.there)) ?_; intro w' hc; (replace HC := hide hc; clear hc)); (obtain ⟨c0, c1, c2, c3, c4, c5, c6, c7, c8, c9⟩ := ten_f HC.out))))
    go_wp2_with (first | (clear M1; go_at_call 79; refine (HW1.out _).mono ?_; rintro e w' ⟨rfl, hw⟩; replace hw := hw.symm; subst hw) | (go_at_call 79; refine (HW2.out _).mono ?_; rintro e w' ⟨rfl, hw⟩; replace hw := hw.symm; subst hw) | (go_at_call 80; refine (holds_at _ _ (HT.out.kept HC.out.grown)).mono ?_; rw [HH.out]; rintro e w' ⟨rfl, hw⟩; replace hw := hw.symm; subst hw) | (go_at_call 81; refine (place_at _ _ _ _ _ (by omega)).mono ?_; rw [HI.out]; rintro e w' ⟨rfl, hw⟩; replace hw := hw.symm; subst hw))
    go_ret
    exact ⟨by simp [h_ln], HC.out.grown⟩
  have b_ln : (ln != 0) = false := by simpa using h_ln
  by_cases h_ba : ba = 0
  case neg =>
    have b_ba : (ba != 0) = true := by simpa using h_ba
    (go_enter Try.func51, Try.ntmps51; go_upto_region 2 with (first | (refine at_load 48 rfl ?_; refine wl_run rfl 48 _ rfl rfl (run_load_s tyT _ [.int .i64 8, .string (bs md), .string (bs nm), .int .i64 ln, .int .i64 el, .int .i64 ba, .slice fo fl.length fc, .slice po pr.length pc, .int .i64 rs, .int .i64 ds] rfl (HEL.out _ HC.out.grown)) ?_) | (refine at_alloc 48 rfl ?_; refine wl_alloc rfl 48 rfl _ zTy HC.out ?_; intro bt w' hn hc; (replace HC := hide hc; clear hc)) | ((refine at_store 48 rfl ?_; refine wl_store rfl 48 _ _ rfl rfl rfl tyT.sz rfl HC.out (by repeat (first | exact List.Mem.head _ | apply List.Mem.tail)) (by exact PutS.all _ _ rfl) (by repeat (first | exact Upd.here _ _ _ | apply Upd.there)) ?_; intro w' hc; (replace HC := hide hc; clear hc)); (obtain ⟨c0, c1, c2, c3, c4, c5, c6, c7, c8, c9⟩ := ten_f HC.out))))
    go_wp2_with (first | (clear M1; go_at_call 79; refine (HW1.out _).mono ?_; rintro e w' ⟨rfl, hw⟩; replace hw := hw.symm; subst hw) | (go_at_call 79; refine (HW2.out _).mono ?_; rintro e w' ⟨rfl, hw⟩; replace hw := hw.symm; subst hw) | (go_at_call 80; refine (holds_at _ _ (HT.out.kept HC.out.grown)).mono ?_; rw [HH.out]; rintro e w' ⟨rfl, hw⟩; replace hw := hw.symm; subst hw) | (go_at_call 81; refine (place_at _ _ _ _ _ (by omega)).mono ?_; rw [HI.out]; rintro e w' ⟨rfl, hw⟩; replace hw := hw.symm; subst hw))
    go_ret
    exact ⟨by simp [h_ba], HC.out.grown⟩
  have b_ba : (ba != 0) = false := by simpa using h_ba
  by_cases h_fl : fl.length = 0
  case neg =>
    have b_fl : (0 : Int) < fl.length := by omega
    (go_enter Try.func51, Try.ntmps51; go_upto_region 2 with (first | (refine at_load 48 rfl ?_; refine wl_run rfl 48 _ rfl rfl (run_load_s tyT _ [.int .i64 8, .string (bs md), .string (bs nm), .int .i64 ln, .int .i64 el, .int .i64 ba, .slice fo fl.length fc, .slice po pr.length pc, .int .i64 rs, .int .i64 ds] rfl (HEL.out _ HC.out.grown)) ?_) | (refine at_alloc 48 rfl ?_; refine wl_alloc rfl 48 rfl _ zTy HC.out ?_; intro bt w' hn hc; (replace HC := hide hc; clear hc)) | ((refine at_store 48 rfl ?_; refine wl_store rfl 48 _ _ rfl rfl rfl tyT.sz rfl HC.out (by repeat (first | exact List.Mem.head _ | apply List.Mem.tail)) (by exact PutS.all _ _ rfl) (by repeat (first | exact Upd.here _ _ _ | apply Upd.there)) ?_; intro w' hc; (replace HC := hide hc; clear hc)); (obtain ⟨c0, c1, c2, c3, c4, c5, c6, c7, c8, c9⟩ := ten_f HC.out))))
    go_wp2_with (first | (clear M1; go_at_call 79; refine (HW1.out _).mono ?_; rintro e w' ⟨rfl, hw⟩; replace hw := hw.symm; subst hw) | (go_at_call 79; refine (HW2.out _).mono ?_; rintro e w' ⟨rfl, hw⟩; replace hw := hw.symm; subst hw) | (go_at_call 80; refine (holds_at _ _ (HT.out.kept HC.out.grown)).mono ?_; rw [HH.out]; rintro e w' ⟨rfl, hw⟩; replace hw := hw.symm; subst hw) | (go_at_call 81; refine (place_at _ _ _ _ _ (by omega)).mono ?_; rw [HI.out]; rintro e w' ⟨rfl, hw⟩; replace hw := hw.symm; subst hw))
    go_ret
    exact ⟨by simp [h_fl], HC.out.grown⟩
  have b_fl : ¬ (0 : Int) < fl.length := by omega
  by_cases h_pr : pr.length = 0
  case neg =>
    have b_pr : (0 : Int) < pr.length := by omega
    (go_enter Try.func51, Try.ntmps51; go_upto_region 2 with (first | (refine at_load 48 rfl ?_; refine wl_run rfl 48 _ rfl rfl (run_load_s tyT _ [.int .i64 8, .string (bs md), .string (bs nm), .int .i64 ln, .int .i64 el, .int .i64 ba, .slice fo fl.length fc, .slice po pr.length pc, .int .i64 rs, .int .i64 ds] rfl (HEL.out _ HC.out.grown)) ?_) | (refine at_alloc 48 rfl ?_; refine wl_alloc rfl 48 rfl _ zTy HC.out ?_; intro bt w' hn hc; (replace HC := hide hc; clear hc)) | ((refine at_store 48 rfl ?_; refine wl_store rfl 48 _ _ rfl rfl rfl tyT.sz rfl HC.out (by repeat (first | exact List.Mem.head _ | apply List.Mem.tail)) (by exact PutS.all _ _ rfl) (by repeat (first | exact Upd.here _ _ _ | apply Upd.there)) ?_; intro w' hc; (replace HC := hide hc; clear hc)); (obtain ⟨c0, c1, c2, c3, c4, c5, c6, c7, c8, c9⟩ := ten_f HC.out))))
    go_wp2_with (first | (clear M1; go_at_call 79; refine (HW1.out _).mono ?_; rintro e w' ⟨rfl, hw⟩; replace hw := hw.symm; subst hw) | (go_at_call 79; refine (HW2.out _).mono ?_; rintro e w' ⟨rfl, hw⟩; replace hw := hw.symm; subst hw) | (go_at_call 80; refine (holds_at _ _ (HT.out.kept HC.out.grown)).mono ?_; rw [HH.out]; rintro e w' ⟨rfl, hw⟩; replace hw := hw.symm; subst hw) | (go_at_call 81; refine (place_at _ _ _ _ _ (by omega)).mono ?_; rw [HI.out]; rintro e w' ⟨rfl, hw⟩; replace hw := hw.symm; subst hw))
    go_ret
    exact ⟨by simp [h_pr], HC.out.grown⟩
  have b_pr : ¬ (0 : Int) < pr.length := by omega
  by_cases h_rs : rs = 0
  case neg =>
    have b_rs : (rs != 0) = true := by simpa using h_rs
    (go_enter Try.func51, Try.ntmps51; go_upto_region 2 with (first | (refine at_load 48 rfl ?_; refine wl_run rfl 48 _ rfl rfl (run_load_s tyT _ [.int .i64 8, .string (bs md), .string (bs nm), .int .i64 ln, .int .i64 el, .int .i64 ba, .slice fo fl.length fc, .slice po pr.length pc, .int .i64 rs, .int .i64 ds] rfl (HEL.out _ HC.out.grown)) ?_) | (refine at_alloc 48 rfl ?_; refine wl_alloc rfl 48 rfl _ zTy HC.out ?_; intro bt w' hn hc; (replace HC := hide hc; clear hc)) | ((refine at_store 48 rfl ?_; refine wl_store rfl 48 _ _ rfl rfl rfl tyT.sz rfl HC.out (by repeat (first | exact List.Mem.head _ | apply List.Mem.tail)) (by exact PutS.all _ _ rfl) (by repeat (first | exact Upd.here _ _ _ | apply Upd.there)) ?_; intro w' hc; (replace HC := hide hc; clear hc)); (obtain ⟨c0, c1, c2, c3, c4, c5, c6, c7, c8, c9⟩ := ten_f HC.out))))
    go_wp2_with (first | (clear M1; go_at_call 79; refine (HW1.out _).mono ?_; rintro e w' ⟨rfl, hw⟩; replace hw := hw.symm; subst hw) | (go_at_call 79; refine (HW2.out _).mono ?_; rintro e w' ⟨rfl, hw⟩; replace hw := hw.symm; subst hw) | (go_at_call 80; refine (holds_at _ _ (HT.out.kept HC.out.grown)).mono ?_; rw [HH.out]; rintro e w' ⟨rfl, hw⟩; replace hw := hw.symm; subst hw) | (go_at_call 81; refine (place_at _ _ _ _ _ (by omega)).mono ?_; rw [HI.out]; rintro e w' ⟨rfl, hw⟩; replace hw := hw.symm; subst hw))
    go_ret
    exact ⟨by simp [h_rs], HC.out.grown⟩
  have b_rs : (rs != 0) = false := by simpa using h_rs
  cases hhe : holdsA T el with
  | true =>
    have HH := hide hhe
    clear hhe
    (go_enter Try.func51, Try.ntmps51; go_upto_region 2 with (first | (refine at_load 48 rfl ?_; refine wl_run rfl 48 _ rfl rfl (run_load_s tyT _ [.int .i64 8, .string (bs md), .string (bs nm), .int .i64 ln, .int .i64 el, .int .i64 ba, .slice fo fl.length fc, .slice po pr.length pc, .int .i64 rs, .int .i64 ds] rfl (HEL.out _ HC.out.grown)) ?_) | (refine at_alloc 48 rfl ?_; refine wl_alloc rfl 48 rfl _ zTy HC.out ?_; intro bt w' hn hc; (replace HC := hide hc; clear hc)) | ((refine at_store 48 rfl ?_; refine wl_store rfl 48 _ _ rfl rfl rfl tyT.sz rfl HC.out (by repeat (first | exact List.Mem.head _ | apply List.Mem.tail)) (by exact PutS.all _ _ rfl) (by repeat (first | exact Upd.here _ _ _ | apply Upd.there)) ?_; intro w' hc; (replace HC := hide hc; clear hc)); (obtain ⟨c0, c1, c2, c3, c4, c5, c6, c7, c8, c9⟩ := ten_f HC.out))))
    go_wp2_with (first | (clear M1; go_at_call 79; refine (HW1.out _).mono ?_; rintro e w' ⟨rfl, hw⟩; replace hw := hw.symm; subst hw) | (go_at_call 79; refine (HW2.out _).mono ?_; rintro e w' ⟨rfl, hw⟩; replace hw := hw.symm; subst hw) | (go_at_call 80; refine (holds_at _ _ (HT.out.kept HC.out.grown)).mono ?_; rw [HH.out]; rintro e w' ⟨rfl, hw⟩; replace hw := hw.symm; subst hw) | (go_at_call 81; refine (place_at _ _ _ _ _ (by omega)).mono ?_; rw [HI.out]; rintro e w' ⟨rfl, hw⟩; replace hw := hw.symm; subst hw))
    go_ret
    exact ⟨by simp [h_ln, h_ba, h_fl, h_pr, h_rs], HC.out.grown⟩
  | false =>
    have HH := hide hhe
    clear hhe
    cases hin : inT T.length el with
    | false =>
      have HI := hide hin
      clear hin
      (go_enter Try.func51, Try.ntmps51; go_upto_region 2 with (first | (refine at_load 48 rfl ?_; refine wl_run rfl 48 _ rfl rfl (run_load_s tyT _ [.int .i64 8, .string (bs md), .string (bs nm), .int .i64 ln, .int .i64 el, .int .i64 ba, .slice fo fl.length fc, .slice po pr.length pc, .int .i64 rs, .int .i64 ds] rfl (HEL.out _ HC.out.grown)) ?_) | (refine at_alloc 48 rfl ?_; refine wl_alloc rfl 48 rfl _ zTy HC.out ?_; intro bt w' hn hc; (replace HC := hide hc; clear hc)) | ((refine at_store 48 rfl ?_; refine wl_store rfl 48 _ _ rfl rfl rfl tyT.sz rfl HC.out (by repeat (first | exact List.Mem.head _ | apply List.Mem.tail)) (by exact PutS.all _ _ rfl) (by repeat (first | exact Upd.here _ _ _ | apply Upd.there)) ?_; intro w' hc; (replace HC := hide hc; clear hc)); (obtain ⟨c0, c1, c2, c3, c4, c5, c6, c7, c8, c9⟩ := ten_f HC.out))))
      go_wp2_with (first | (clear M1; go_at_call 79; refine (HW1.out _).mono ?_; rintro e w' ⟨rfl, hw⟩; replace hw := hw.symm; subst hw) | (go_at_call 79; refine (HW2.out _).mono ?_; rintro e w' ⟨rfl, hw⟩; replace hw := hw.symm; subst hw) | (go_at_call 80; refine (holds_at _ _ (HT.out.kept HC.out.grown)).mono ?_; rw [HH.out]; rintro e w' ⟨rfl, hw⟩; replace hw := hw.symm; subst hw) | (go_at_call 81; refine (place_at _ _ _ _ _ (by omega)).mono ?_; rw [HI.out]; rintro e w' ⟨rfl, hw⟩; replace hw := hw.symm; subst hw))
      go_ret
      exact ⟨by simp [h_ln, h_ba, h_fl, h_pr, h_rs], HC.out.grown⟩
    | true =>
      have HI := hide hin
      unfold inT at hin
      simp only [Bool.and_eq_true, decide_eq_true_eq] at hin
      obtain ⟨q, hq⟩ := Int.eq_ofNat_of_zero_le hin.1
      subst hq
      have q1 : q < T.length := by omega
      have q2 : (q : Int) < T.length := hin.2
      obtain ⟨y, hy⟩ : ∃ y, T[q]? = some y := ⟨T[q], List.getElem?_eq_getElem q1⟩
      obtain ⟨ad', lb, e1, rfl, hcl, hp⟩ := HT.out.at hy
      cases e1
      obtain ⟨B2, hB2⟩ : ∃ B, ad.add (q * 10) = B := ⟨_, rfl⟩
      rw [hB2] at hcl
      have HD0 := hide (fun W (hW : w.grownBy W none) => hW.cell (ten_of hcl).1 (by simp))
      rw [fmA_at hy]
      obtain ⟨f, hf⟩ : ∃ f, lb.x.fm = f := ⟨_, rfl⟩
      rw [hf] at HD0 ⊢
      clear hcl hp hin hy hf
      (go_enter Try.func51, Try.ntmps51; go_upto_region 2 with (first | (refine at_load 48 rfl ?_; refine wl_run rfl 48 _ rfl rfl (run_load_s tyT _ [.int .i64 8, .string (bs md), .string (bs nm), .int .i64 ln, .int .i64 (q : Int), .int .i64 ba, .slice fo fl.length fc, .slice po pr.length pc, .int .i64 rs, .int .i64 ds] rfl (HEL.out _ HC.out.grown)) ?_) | (refine at_alloc 48 rfl ?_; refine wl_alloc rfl 48 rfl _ zTy HC.out ?_; intro bt w' hn hc; (replace HC := hide hc; clear hc)) | ((refine at_store 48 rfl ?_; refine wl_store rfl 48 _ _ rfl rfl rfl tyT.sz rfl HC.out (by repeat (first | exact List.Mem.head _ | apply List.Mem.tail)) (by exact PutS.all _ _ rfl) (by repeat (first | exact Upd.here _ _ _ | apply Upd.there)) ?_; intro w' hc; (replace HC := hide hc; clear hc)); (obtain ⟨c0, c1, c2, c3, c4, c5, c6, c7, c8, c9⟩ := ten_f HC.out))))
      go_upto_region 12 with (first | (clear M1; go_at_call 79; refine (HW1.out _).mono ?_; rintro e w' ⟨rfl, hw⟩; replace hw := hw.symm; subst hw) | (go_at_call 79; refine (HW2.out _).mono ?_; rintro e w' ⟨rfl, hw⟩; replace hw := hw.symm; subst hw) | (go_at_call 80; refine (holds_at _ _ (HT.out.kept HC.out.grown)).mono ?_; rw [HH.out]; rintro e w' ⟨rfl, hw⟩; replace hw := hw.symm; subst hw) | (go_at_call 81; refine (place_at _ _ _ _ _ (by omega)).mono ?_; rw [HI.out]; rintro e w' ⟨rfl, hw⟩; replace hw := hw.symm; subst hw))
      have d0' := HD0.out _ HC.out.grown
      have bl2 := block_lt_of_cell d0'
      go_wp2_with (first | (clear M1; go_at_call 79; refine (HW1.out _).mono ?_; rintro e w' ⟨rfl, hw⟩; replace hw := hw.symm; subst hw) | (go_at_call 79; refine (HW2.out _).mono ?_; rintro e w' ⟨rfl, hw⟩; replace hw := hw.symm; subst hw) | (go_at_call 80; refine (holds_at _ _ (HT.out.kept HC.out.grown)).mono ?_; rw [HH.out]; rintro e w' ⟨rfl, hw⟩; replace hw := hw.symm; subst hw) | (go_at_call 81; refine (place_at _ _ _ _ _ (by omega)).mono ?_; rw [HI.out]; rintro e w' ⟨rfl, hw⟩; replace hw := hw.symm; subst hw))
      go_ret
      exact ⟨by simp [h_ln, h_ba, h_fl, h_pr, h_rs], HC.out.grown⟩
end Go.Proofs.Ythmldhppmpbadaa.Ty
