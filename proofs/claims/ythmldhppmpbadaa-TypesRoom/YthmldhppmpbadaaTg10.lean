/-
  The document's own tables (package spinetref13): one type, a record.
-/
import Derived.Test.YthmldhppmpbadaaY7
namespace Go.Proofs.Ythmldhppmpbadaa.Ty
open Go.RowKit hiding Hid
open Go.Maps Go.Proofs.Ythmldhppmpbadaa.Tx Go.Proofs.Ythmldhppmpbadaa.Lx Go.Proofs.Ythmldhppmpbadaa.Tr Go.Proofs.Ythmldhppmpbadaa.Mp
set_option linter.unusedVariables false
set_option linter.unusedSimpArgs false
set_option maxRecDepth 100000

theorem record_at {w : World} {ad : Addr} {T : List Tt} {i cp : Nat} {x : Tt} (H : Tab w (some ad) T) (hx : T[i]? = some x) : Calls Try.prog 82 #[.slice (some ad) T.length cp, .int .i64 i] w (RdO w (RdP T i x)) := by
  cases hb : basesR T i with
  | none => exact record_none H hx hb
  | some l =>
    by_cases h5 : l.length ≤ 5
    · by_cases h6 : x.fl.length ≤ 64
      · refine (record_go H hx hb h5 h6).mono ?_
        rintro e w' ⟨d, he, hg, hd⟩
        refine ⟨d, he, hg, hd.trans ⟨fun h => ⟨l, hb, h5, h6, h⟩, fun ⟨l', h1, _, _, h⟩ => ?_⟩⟩
        rw [hb] at h1
        cases h1
        exact h
      · exact record_far H hx hb (.inr h6)
    · exact record_far H hx hb (.inl h5)
set_option maxHeartbeats 16000000 in
theorem one_9a {w : World} {ad B : Addr} {T : List Tt} {i cp : Nat} {md nm : Txt} {ln el ba rs ds : Int} {fl : List Fl} {pr : List Pm} {fo po : Option Addr} {fc pc : Nat} (H : Tab w (some ad) T) (hB : ad.add (i * 10) = B) (hel : ∀ W, w.grownBy W none → ∀ j u, ([.int .i64 9, .string (bs md), .string (bs nm), .int .i64 ln, .int .i64 el, .int .i64 ba, .slice fo fl.length fc, .slice po pr.length pc, .int .i64 rs, .int .i64 ds] : List Value)[j]? = some u → W.cell? (B.add j) = some u) (j1 : (i : Int) < T.length) (hmd : md.length ≤ lim) (hnm : nm.length ≤ lim) (hx : T[i]? = some ⟨9, md, nm, ln, el, ba, fl, pr, rs, ds⟩) (hd : -1 ≤ ds) (hd2 : ds ≤ 63) (q2 : ¬ md = []) (w1 : wordB md = true) (q3 : nm = []) :
    Calls Try.prog 51 #[.slice (some ad) T.length cp, .int .i64 i] w (RdO w (ln = 0 ∧ el = 0 ∧ pr.length = 0 ∧ rs = 0 ∧ RdP T i ⟨9, md, nm, ln, el, ba, fl, pr, rs, ds⟩)) := by
  have HT := hide H
  have HEL := hide hel
  have HC := hide (Cx.start w (fun _ => False))
  have hlen := H.1
  have HW1 := hide (fun W : World => rword_at md W hmd)
  have HW2 := hide (fun W : World => rword_at nm W hnm)
  have M1 := True.intro
  clear H hel hmd hnm
  have p2 := em_f q2
  have m2 := em_e q2
  have hdd : -1 ≤ ds ∧ ds ≤ 63 := ⟨hd, hd2⟩
  rw [w1] at HW1
  have HX := hide hx
  clear q2 w1 hx
  have p3 := em_t q3
  clear q3
  by_cases h_ln : ln = 0
  case neg =>
    have HN := hide h_ln
    have b_ln : (ln != 0) = true := by simpa using h_ln
    (go_enter Try.func51, Try.ntmps51; go_upto_region 2 with (first | (refine at_load 48 rfl ?_; refine wl_run rfl 48 _ rfl rfl (run_load_s tyT _ [.int .i64 9, .string (bs md), .string (bs nm), .int .i64 ln, .int .i64 el, .int .i64 ba, .slice fo fl.length fc, .slice po pr.length pc, .int .i64 rs, .int .i64 ds] rfl (HEL.out _ HC.out.grown)) ?_) | (refine at_alloc 48 rfl ?_; refine wl_alloc rfl 48 rfl _ zTy HC.out ?_; intro bt w' hn hc; (replace HC := hide hc; clear hc)) | ((refine at_store 48 rfl ?_; refine wl_store rfl 48 _ _ rfl rfl rfl tyT.sz rfl HC.out (by repeat (first | exact List.Mem.head _ | apply List.Mem.tail)) (by exact PutS.all _ _ rfl) (by repeat (first | exact Upd.here _ _ _ | apply Upd.there)) ?_; intro w' hc; (replace HC := hide hc; clear hc)); (obtain ⟨c0, c1, c2, c3, c4, c5, c6, c7, c8, c9⟩ := ten_f HC.out))))
    go_wp2_with (first | (clear M1; go_at_call 79; refine (HW1.out _).mono ?_; rintro e w' ⟨rfl, hw⟩; replace hw := hw.symm; subst hw) | (go_at_call 79; refine (HW2.out _).mono ?_; rintro e w' ⟨rfl, hw⟩; replace hw := hw.symm; subst hw) | (go_at_call 80; refine (holds_at _ _ (HT.out.kept HC.out.grown)).mono ?_; rw [HH.out]; rintro e w' ⟨rfl, hw⟩; replace hw := hw.symm; subst hw) | (go_at_call 81; refine (place_at _ _ _ _ _ (by omega)).mono ?_; rw [HI.out]; rintro e w' ⟨rfl, hw⟩; replace hw := hw.symm; subst hw))
    go_ret
    exact ⟨false, rfl, HC.out.grown, rd_no (fun h => HN.out h.1)⟩
  have b_ln : (ln != 0) = false := by simpa using h_ln
  by_cases h_el : el = 0
  case neg =>
    have HN := hide h_el
    have b_el : (el != 0) = true := by simpa using h_el
    (go_enter Try.func51, Try.ntmps51; go_upto_region 2 with (first | (refine at_load 48 rfl ?_; refine wl_run rfl 48 _ rfl rfl (run_load_s tyT _ [.int .i64 9, .string (bs md), .string (bs nm), .int .i64 ln, .int .i64 el, .int .i64 ba, .slice fo fl.length fc, .slice po pr.length pc, .int .i64 rs, .int .i64 ds] rfl (HEL.out _ HC.out.grown)) ?_) | (refine at_alloc 48 rfl ?_; refine wl_alloc rfl 48 rfl _ zTy HC.out ?_; intro bt w' hn hc; (replace HC := hide hc; clear hc)) | ((refine at_store 48 rfl ?_; refine wl_store rfl 48 _ _ rfl rfl rfl tyT.sz rfl HC.out (by repeat (first | exact List.Mem.head _ | apply List.Mem.tail)) (by exact PutS.all _ _ rfl) (by repeat (first | exact Upd.here _ _ _ | apply Upd.there)) ?_; intro w' hc; (replace HC := hide hc; clear hc)); (obtain ⟨c0, c1, c2, c3, c4, c5, c6, c7, c8, c9⟩ := ten_f HC.out))))
    go_wp2_with (first | (clear M1; go_at_call 79; refine (HW1.out _).mono ?_; rintro e w' ⟨rfl, hw⟩; replace hw := hw.symm; subst hw) | (go_at_call 79; refine (HW2.out _).mono ?_; rintro e w' ⟨rfl, hw⟩; replace hw := hw.symm; subst hw) | (go_at_call 80; refine (holds_at _ _ (HT.out.kept HC.out.grown)).mono ?_; rw [HH.out]; rintro e w' ⟨rfl, hw⟩; replace hw := hw.symm; subst hw) | (go_at_call 81; refine (place_at _ _ _ _ _ (by omega)).mono ?_; rw [HI.out]; rintro e w' ⟨rfl, hw⟩; replace hw := hw.symm; subst hw))
    go_ret
    exact ⟨false, rfl, HC.out.grown, rd_no (fun h => HN.out h.2.1)⟩
  have b_el : (el != 0) = false := by simpa using h_el
  by_cases h_pr : pr.length = 0
  case neg =>
    have HN := hide h_pr
    have b_pr : (0 : Int) < pr.length := by omega
    (go_enter Try.func51, Try.ntmps51; go_upto_region 2 with (first | (refine at_load 48 rfl ?_; refine wl_run rfl 48 _ rfl rfl (run_load_s tyT _ [.int .i64 9, .string (bs md), .string (bs nm), .int .i64 ln, .int .i64 el, .int .i64 ba, .slice fo fl.length fc, .slice po pr.length pc, .int .i64 rs, .int .i64 ds] rfl (HEL.out _ HC.out.grown)) ?_) | (refine at_alloc 48 rfl ?_; refine wl_alloc rfl 48 rfl _ zTy HC.out ?_; intro bt w' hn hc; (replace HC := hide hc; clear hc)) | ((refine at_store 48 rfl ?_; refine wl_store rfl 48 _ _ rfl rfl rfl tyT.sz rfl HC.out (by repeat (first | exact List.Mem.head _ | apply List.Mem.tail)) (by exact PutS.all _ _ rfl) (by repeat (first | exact Upd.here _ _ _ | apply Upd.there)) ?_; intro w' hc; (replace HC := hide hc; clear hc)); (obtain ⟨c0, c1, c2, c3, c4, c5, c6, c7, c8, c9⟩ := ten_f HC.out))))
    go_wp2_with (first | (clear M1; go_at_call 79; refine (HW1.out _).mono ?_; rintro e w' ⟨rfl, hw⟩; replace hw := hw.symm; subst hw) | (go_at_call 79; refine (HW2.out _).mono ?_; rintro e w' ⟨rfl, hw⟩; replace hw := hw.symm; subst hw) | (go_at_call 80; refine (holds_at _ _ (HT.out.kept HC.out.grown)).mono ?_; rw [HH.out]; rintro e w' ⟨rfl, hw⟩; replace hw := hw.symm; subst hw) | (go_at_call 81; refine (place_at _ _ _ _ _ (by omega)).mono ?_; rw [HI.out]; rintro e w' ⟨rfl, hw⟩; replace hw := hw.symm; subst hw))
    go_ret
    exact ⟨false, rfl, HC.out.grown, rd_no (fun h => HN.out h.2.2.1)⟩
  have b_pr : ¬ (0 : Int) < pr.length := by omega
  by_cases h_rs : rs = 0
  case neg =>
    have HN := hide h_rs
    have b_rs : (rs != 0) = true := by simpa using h_rs
    (go_enter Try.func51, Try.ntmps51; go_upto_region 2 with (first | (refine at_load 48 rfl ?_; refine wl_run rfl 48 _ rfl rfl (run_load_s tyT _ [.int .i64 9, .string (bs md), .string (bs nm), .int .i64 ln, .int .i64 el, .int .i64 ba, .slice fo fl.length fc, .slice po pr.length pc, .int .i64 rs, .int .i64 ds] rfl (HEL.out _ HC.out.grown)) ?_) | (refine at_alloc 48 rfl ?_; refine wl_alloc rfl 48 rfl _ zTy HC.out ?_; intro bt w' hn hc; (replace HC := hide hc; clear hc)) | ((refine at_store 48 rfl ?_; refine wl_store rfl 48 _ _ rfl rfl rfl tyT.sz rfl HC.out (by repeat (first | exact List.Mem.head _ | apply List.Mem.tail)) (by exact PutS.all _ _ rfl) (by repeat (first | exact Upd.here _ _ _ | apply Upd.there)) ?_; intro w' hc; (replace HC := hide hc; clear hc)); (obtain ⟨c0, c1, c2, c3, c4, c5, c6, c7, c8, c9⟩ := ten_f HC.out))))
    go_wp2_with (first | (clear M1; go_at_call 79; refine (HW1.out _).mono ?_; rintro e w' ⟨rfl, hw⟩; replace hw := hw.symm; subst hw) | (go_at_call 79; refine (HW2.out _).mono ?_; rintro e w' ⟨rfl, hw⟩; replace hw := hw.symm; subst hw) | (go_at_call 80; refine (holds_at _ _ (HT.out.kept HC.out.grown)).mono ?_; rw [HH.out]; rintro e w' ⟨rfl, hw⟩; replace hw := hw.symm; subst hw) | (go_at_call 81; refine (place_at _ _ _ _ _ (by omega)).mono ?_; rw [HI.out]; rintro e w' ⟨rfl, hw⟩; replace hw := hw.symm; subst hw))
    go_ret
    exact ⟨false, rfl, HC.out.grown, rd_no (fun h => HN.out h.2.2.2.1)⟩
  have b_rs : (rs != 0) = false := by simpa using h_rs
  have HZ := hide (And.intro h_ln (And.intro h_el (And.intro h_pr h_rs)))
  (go_enter Try.func51, Try.ntmps51; go_upto_region 2 with (first | (refine at_load 48 rfl ?_; refine wl_run rfl 48 _ rfl rfl (run_load_s tyT _ [.int .i64 9, .string (bs md), .string (bs nm), .int .i64 ln, .int .i64 el, .int .i64 ba, .slice fo fl.length fc, .slice po pr.length pc, .int .i64 rs, .int .i64 ds] rfl (HEL.out _ HC.out.grown)) ?_) | (refine at_alloc 48 rfl ?_; refine wl_alloc rfl 48 rfl _ zTy HC.out ?_; intro bt w' hn hc; (replace HC := hide hc; clear hc)) | ((refine at_store 48 rfl ?_; refine wl_store rfl 48 _ _ rfl rfl rfl tyT.sz rfl HC.out (by repeat (first | exact List.Mem.head _ | apply List.Mem.tail)) (by exact PutS.all _ _ rfl) (by repeat (first | exact Upd.here _ _ _ | apply Upd.there)) ?_; intro w' hc; (replace HC := hide hc; clear hc)); (obtain ⟨c0, c1, c2, c3, c4, c5, c6, c7, c8, c9⟩ := ten_f HC.out))))
  go_wp2_with (first | (clear M1; go_at_call 79; refine (HW1.out _).mono ?_; rintro e w' ⟨rfl, hw⟩; replace hw := hw.symm; subst hw) | (go_at_call 79; refine (HW2.out _).mono ?_; rintro e w' ⟨rfl, hw⟩; replace hw := hw.symm; subst hw) | (go_at_call 82; refine (record_at (HT.out.kept HC.out.grown) HX.out).mono ?_; rintro e w2 ⟨d, rfl, hg, hd⟩; have HD := hide hd; replace HC := hide (HC.out.g hg); clear hg hd))
  go_ret
  exact ⟨d, rfl, HC.out.grown, HD.out.trans ⟨fun h => ⟨HZ.out.1, HZ.out.2.1, HZ.out.2.2.1, HZ.out.2.2.2, h⟩, fun h => h.2.2.2.2⟩⟩
set_option maxHeartbeats 16000000 in
theorem one_9b {w : World} {ad B : Addr} {T : List Tt} {i cp : Nat} {md nm : Txt} {ln el ba rs ds : Int} {fl : List Fl} {pr : List Pm} {fo po : Option Addr} {fc pc : Nat} (H : Tab w (some ad) T) (hB : ad.add (i * 10) = B) (hel : ∀ W, w.grownBy W none → ∀ j u, ([.int .i64 9, .string (bs md), .string (bs nm), .int .i64 ln, .int .i64 el, .int .i64 ba, .slice fo fl.length fc, .slice po pr.length pc, .int .i64 rs, .int .i64 ds] : List Value)[j]? = some u → W.cell? (B.add j) = some u) (j1 : (i : Int) < T.length) (hmd : md.length ≤ lim) (hnm : nm.length ≤ lim) (hx : T[i]? = some ⟨9, md, nm, ln, el, ba, fl, pr, rs, ds⟩) (hd : -1 ≤ ds) (hd2 : ds ≤ 63) (q2 : ¬ md = []) (w1 : wordB md = true) (q3 : ¬ nm = []) (w2 : wordB nm = true) :
    Calls Try.prog 51 #[.slice (some ad) T.length cp, .int .i64 i] w (RdO w (ln = 0 ∧ el = 0 ∧ pr.length = 0 ∧ rs = 0 ∧ RdP T i ⟨9, md, nm, ln, el, ba, fl, pr, rs, ds⟩)) := by
  have HT := hide H
  have HEL := hide hel
  have HC := hide (Cx.start w (fun _ => False))
  have hlen := H.1
  have HW1 := hide (fun W : World => rword_at md W hmd)
  have HW2 := hide (fun W : World => rword_at nm W hnm)
  have M1 := True.intro
  clear H hel hmd hnm
  have p2 := em_f q2
  have m2 := em_e q2
  have hdd : -1 ≤ ds ∧ ds ≤ 63 := ⟨hd, hd2⟩
  rw [w1] at HW1
  have HX := hide hx
  clear q2 w1 hx
  have p3 := em_f q3
  have m3 := em_e q3
  rw [w2] at HW2
  clear q3 w2
  by_cases h_ln : ln = 0
  case neg =>
    have HN := hide h_ln
    have b_ln : (ln != 0) = true := by simpa using h_ln
    (go_enter Try.func51, Try.ntmps51; go_upto_region 2 with (first | (refine at_load 48 rfl ?_; refine wl_run rfl 48 _ rfl rfl (run_load_s tyT _ [.int .i64 9, .string (bs md), .string (bs nm), .int .i64 ln, .int .i64 el, .int .i64 ba, .slice fo fl.length fc, .slice po pr.length pc, .int .i64 rs, .int .i64 ds] rfl (HEL.out _ HC.out.grown)) ?_) | (refine at_alloc 48 rfl ?_; refine wl_alloc rfl 48 rfl _ zTy HC.out ?_; intro bt w' hn hc; (replace HC := hide hc; clear hc)) | ((refine at_store 48 rfl ?_; refine wl_store rfl 48 _ _ rfl rfl rfl tyT.sz rfl HC.out (by repeat (first | exact List.Mem.head _ | apply List.Mem.tail)) (by exact PutS.all _ _ rfl) (by repeat (first | exact Upd.here _ _ _ | apply Upd.there)) ?_; intro w' hc; (replace HC := hide hc; clear hc)); (obtain ⟨c0, c1, c2, c3, c4, c5, c6, c7, c8, c9⟩ := ten_f HC.out))))
    go_wp2_with (first | (clear M1; go_at_call 79; refine (HW1.out _).mono ?_; rintro e w' ⟨rfl, hw⟩; replace hw := hw.symm; subst hw) | (go_at_call 79; refine (HW2.out _).mono ?_; rintro e w' ⟨rfl, hw⟩; replace hw := hw.symm; subst hw) | (go_at_call 80; refine (holds_at _ _ (HT.out.kept HC.out.grown)).mono ?_; rw [HH.out]; rintro e w' ⟨rfl, hw⟩; replace hw := hw.symm; subst hw) | (go_at_call 81; refine (place_at _ _ _ _ _ (by omega)).mono ?_; rw [HI.out]; rintro e w' ⟨rfl, hw⟩; replace hw := hw.symm; subst hw))
    go_ret
    exact ⟨false, rfl, HC.out.grown, rd_no (fun h => HN.out h.1)⟩
  have b_ln : (ln != 0) = false := by simpa using h_ln
  by_cases h_el : el = 0
  case neg =>
    have HN := hide h_el
    have b_el : (el != 0) = true := by simpa using h_el
    (go_enter Try.func51, Try.ntmps51; go_upto_region 2 with (first | (refine at_load 48 rfl ?_; refine wl_run rfl 48 _ rfl rfl (run_load_s tyT _ [.int .i64 9, .string (bs md), .string (bs nm), .int .i64 ln, .int .i64 el, .int .i64 ba, .slice fo fl.length fc, .slice po pr.length pc, .int .i64 rs, .int .i64 ds] rfl (HEL.out _ HC.out.grown)) ?_) | (refine at_alloc 48 rfl ?_; refine wl_alloc rfl 48 rfl _ zTy HC.out ?_; intro bt w' hn hc; (replace HC := hide hc; clear hc)) | ((refine at_store 48 rfl ?_; refine wl_store rfl 48 _ _ rfl rfl rfl tyT.sz rfl HC.out (by repeat (first | exact List.Mem.head _ | apply List.Mem.tail)) (by exact PutS.all _ _ rfl) (by repeat (first | exact Upd.here _ _ _ | apply Upd.there)) ?_; intro w' hc; (replace HC := hide hc; clear hc)); (obtain ⟨c0, c1, c2, c3, c4, c5, c6, c7, c8, c9⟩ := ten_f HC.out))))
    go_wp2_with (first | (clear M1; go_at_call 79; refine (HW1.out _).mono ?_; rintro e w' ⟨rfl, hw⟩; replace hw := hw.symm; subst hw) | (go_at_call 79; refine (HW2.out _).mono ?_; rintro e w' ⟨rfl, hw⟩; replace hw := hw.symm; subst hw) | (go_at_call 80; refine (holds_at _ _ (HT.out.kept HC.out.grown)).mono ?_; rw [HH.out]; rintro e w' ⟨rfl, hw⟩; replace hw := hw.symm; subst hw) | (go_at_call 81; refine (place_at _ _ _ _ _ (by omega)).mono ?_; rw [HI.out]; rintro e w' ⟨rfl, hw⟩; replace hw := hw.symm; subst hw))
    go_ret
    exact ⟨false, rfl, HC.out.grown, rd_no (fun h => HN.out h.2.1)⟩
  have b_el : (el != 0) = false := by simpa using h_el
  by_cases h_pr : pr.length = 0
  case neg =>
    have HN := hide h_pr
    have b_pr : (0 : Int) < pr.length := by omega
    (go_enter Try.func51, Try.ntmps51; go_upto_region 2 with (first | (refine at_load 48 rfl ?_; refine wl_run rfl 48 _ rfl rfl (run_load_s tyT _ [.int .i64 9, .string (bs md), .string (bs nm), .int .i64 ln, .int .i64 el, .int .i64 ba, .slice fo fl.length fc, .slice po pr.length pc, .int .i64 rs, .int .i64 ds] rfl (HEL.out _ HC.out.grown)) ?_) | (refine at_alloc 48 rfl ?_; refine wl_alloc rfl 48 rfl _ zTy HC.out ?_; intro bt w' hn hc; (replace HC := hide hc; clear hc)) | ((refine at_store 48 rfl ?_; refine wl_store rfl 48 _ _ rfl rfl rfl tyT.sz rfl HC.out (by repeat (first | exact List.Mem.head _ | apply List.Mem.tail)) (by exact PutS.all _ _ rfl) (by repeat (first | exact Upd.here _ _ _ | apply Upd.there)) ?_; intro w' hc; (replace HC := hide hc; clear hc)); (obtain ⟨c0, c1, c2, c3, c4, c5, c6, c7, c8, c9⟩ := ten_f HC.out))))
    go_wp2_with (first | (clear M1; go_at_call 79; refine (HW1.out _).mono ?_; rintro e w' ⟨rfl, hw⟩; replace hw := hw.symm; subst hw) | (go_at_call 79; refine (HW2.out _).mono ?_; rintro e w' ⟨rfl, hw⟩; replace hw := hw.symm; subst hw) | (go_at_call 80; refine (holds_at _ _ (HT.out.kept HC.out.grown)).mono ?_; rw [HH.out]; rintro e w' ⟨rfl, hw⟩; replace hw := hw.symm; subst hw) | (go_at_call 81; refine (place_at _ _ _ _ _ (by omega)).mono ?_; rw [HI.out]; rintro e w' ⟨rfl, hw⟩; replace hw := hw.symm; subst hw))
    go_ret
    exact ⟨false, rfl, HC.out.grown, rd_no (fun h => HN.out h.2.2.1)⟩
  have b_pr : ¬ (0 : Int) < pr.length := by omega
  by_cases h_rs : rs = 0
  case neg =>
    have HN := hide h_rs
    have b_rs : (rs != 0) = true := by simpa using h_rs
    (go_enter Try.func51, Try.ntmps51; go_upto_region 2 with (first | (refine at_load 48 rfl ?_; refine wl_run rfl 48 _ rfl rfl (run_load_s tyT _ [.int .i64 9, .string (bs md), .string (bs nm), .int .i64 ln, .int .i64 el, .int .i64 ba, .slice fo fl.length fc, .slice po pr.length pc, .int .i64 rs, .int .i64 ds] rfl (HEL.out _ HC.out.grown)) ?_) | (refine at_alloc 48 rfl ?_; refine wl_alloc rfl 48 rfl _ zTy HC.out ?_; intro bt w' hn hc; (replace HC := hide hc; clear hc)) | ((refine at_store 48 rfl ?_; refine wl_store rfl 48 _ _ rfl rfl rfl tyT.sz rfl HC.out (by repeat (first | exact List.Mem.head _ | apply List.Mem.tail)) (by exact PutS.all _ _ rfl) (by repeat (first | exact Upd.here _ _ _ | apply Upd.there)) ?_; intro w' hc; (replace HC := hide hc; clear hc)); (obtain ⟨c0, c1, c2, c3, c4, c5, c6, c7, c8, c9⟩ := ten_f HC.out))))
    go_wp2_with (first | (clear M1; go_at_call 79; refine (HW1.out _).mono ?_; rintro e w' ⟨rfl, hw⟩; replace hw := hw.symm; subst hw) | (go_at_call 79; refine (HW2.out _).mono ?_; rintro e w' ⟨rfl, hw⟩; replace hw := hw.symm; subst hw) | (go_at_call 80; refine (holds_at _ _ (HT.out.kept HC.out.grown)).mono ?_; rw [HH.out]; rintro e w' ⟨rfl, hw⟩; replace hw := hw.symm; subst hw) | (go_at_call 81; refine (place_at _ _ _ _ _ (by omega)).mono ?_; rw [HI.out]; rintro e w' ⟨rfl, hw⟩; replace hw := hw.symm; subst hw))
    go_ret
    exact ⟨false, rfl, HC.out.grown, rd_no (fun h => HN.out h.2.2.2.1)⟩
  have b_rs : (rs != 0) = false := by simpa using h_rs
  have HZ := hide (And.intro h_ln (And.intro h_el (And.intro h_pr h_rs)))
  (go_enter Try.func51, Try.ntmps51; go_upto_region 2 with (first | (refine at_load 48 rfl ?_; refine wl_run rfl 48 _ rfl rfl (run_load_s tyT _ [.int .i64 9, .string (bs md), .string (bs nm), .int .i64 ln, .int .i64 el, .int .i64 ba, .slice fo fl.length fc, .slice po pr.length pc, .int .i64 rs, .int .i64 ds] rfl (HEL.out _ HC.out.grown)) ?_) | (refine at_alloc 48 rfl ?_; refine wl_alloc rfl 48 rfl _ zTy HC.out ?_; intro bt w' hn hc; (replace HC := hide hc; clear hc)) | ((refine at_store 48 rfl ?_; refine wl_store rfl 48 _ _ rfl rfl rfl tyT.sz rfl HC.out (by repeat (first | exact List.Mem.head _ | apply List.Mem.tail)) (by exact PutS.all _ _ rfl) (by repeat (first | exact Upd.here _ _ _ | apply Upd.there)) ?_; intro w' hc; (replace HC := hide hc; clear hc)); (obtain ⟨c0, c1, c2, c3, c4, c5, c6, c7, c8, c9⟩ := ten_f HC.out))))
  go_wp2_with (first | (clear M1; go_at_call 79; refine (HW1.out _).mono ?_; rintro e w' ⟨rfl, hw⟩; replace hw := hw.symm; subst hw) | (go_at_call 79; refine (HW2.out _).mono ?_; rintro e w' ⟨rfl, hw⟩; replace hw := hw.symm; subst hw) | (go_at_call 82; refine (record_at (HT.out.kept HC.out.grown) HX.out).mono ?_; rintro e w2 ⟨d, rfl, hg, hd⟩; have HD := hide hd; replace HC := hide (HC.out.g hg); clear hg hd))
  go_ret
  exact ⟨d, rfl, HC.out.grown, HD.out.trans ⟨fun h => ⟨HZ.out.1, HZ.out.2.1, HZ.out.2.2.1, HZ.out.2.2.2, h⟩, fun h => h.2.2.2.2⟩⟩
end Go.Proofs.Ythmldhppmpbadaa.Ty
