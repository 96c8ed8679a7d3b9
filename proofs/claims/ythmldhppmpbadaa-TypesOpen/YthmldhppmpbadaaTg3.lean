/-
  The document's own tables (package spinetref13): one type, names that are none.
-/
import Derived.Test.YthmldhppmpbadaaY15
namespace Go.Proofs.Ythmldhppmpbadaa.Ty
open Go.RowKit hiding Hid
open Go.Maps Go.Proofs.Ythmldhppmpbadaa.Tx Go.Proofs.Ythmldhppmpbadaa.Lx Go.Proofs.Ythmldhppmpbadaa.Tr Go.Proofs.Ythmldhppmpbadaa.Mp
set_option linter.unusedVariables false
set_option linter.unusedSimpArgs false
set_option maxRecDepth 100000

set_option maxHeartbeats 16000000 in
theorem one_n1 {w : World} {ad B : Addr} {T : List Tt} {i cp : Nat} {md nm : Txt} {fm ln el ba rs ds : Int} {fl : List Fl} {pr : List Pm} {fo po : Option Addr} {fc pc : Nat} (H : Tab w (some ad) T) (hB : ad.add (i * 10) = B) (hel : ∀ W, w.grownBy W none → ∀ j u, ([.int .i64 fm, .string (bs md), .string (bs nm), .int .i64 ln, .int .i64 el, .int .i64 ba, .slice fo fl.length fc, .slice po pr.length pc, .int .i64 rs, .int .i64 ds] : List Value)[j]? = some u → W.cell? (B.add j) = some u) (j1 : (i : Int) < T.length) (hmd : md.length ≤ lim) (hnm : nm.length ≤ lim) (hf : ¬ fm = 9) (hd : ¬ ds = 0) :
    Calls Try.prog 51 #[.slice (some ad) T.length cp, .int .i64 i] w fun e w' => e = .returned (.bool false) ∧ w.grownBy w' none := by
  have HT := hide H
  have HEL := hide hel
  have HC := hide (Cx.start w (fun _ => False))
  have hlen := H.1
  have HW1 := hide (fun W : World => rword_at md W hmd)
  have HW2 := hide (fun W : World => rword_at nm W hnm)
  have M1 := True.intro
  clear H hel hmd hnm
  have f9 : (fm != 9) = true := by simpa using hf
  have f9' : (fm == 9) = false := by simpa using hf
  have d0 : (ds != 0) = true := by simpa using hd
  (go_enter Try.func51, Try.ntmps51; go_upto_region 2 with (first | (refine at_load 48 rfl ?_; refine wl_run rfl 48 _ rfl rfl (run_load_s tyT _ [.int .i64 fm, .string (bs md), .string (bs nm), .int .i64 ln, .int .i64 el, .int .i64 ba, .slice fo fl.length fc, .slice po pr.length pc, .int .i64 rs, .int .i64 ds] rfl (HEL.out _ HC.out.grown)) ?_) | (refine at_alloc 48 rfl ?_; refine wl_alloc rfl 48 rfl _ zTy HC.out ?_; intro bt w' hn hc; (replace HC := hide hc; clear hc)) | ((refine at_store 48 rfl ?_; refine wl_store rfl 48 _ _ rfl rfl rfl tyT.sz rfl HC.out (by repeat (first | exact List.Mem.head _ | apply List.Mem.tail)) (by exact PutS.all _ _ rfl) (by repeat (first | exact Upd.here _ _ _ | apply Upd.there)) ?_; intro w' hc; (replace HC := hide hc; clear hc)); (obtain ⟨c0, c1, c2, c3, c4, c5, c6, c7, c8, c9⟩ := ten_f HC.out))))
  go_wp2_with (first | (clear M1; go_at_call 79; refine (HW1.out _).mono ?_; rintro e w' ⟨rfl, hw⟩; replace hw := hw.symm; subst hw) | (go_at_call 79; refine (HW2.out _).mono ?_; rintro e w' ⟨rfl, hw⟩; replace hw := hw.symm; subst hw) | (go_at_call 80; refine (holds_at _ _ (HT.out.kept HC.out.grown)).mono ?_; rw [HH.out]; rintro e w' ⟨rfl, hw⟩; replace hw := hw.symm; subst hw) | (go_at_call 81; refine (place_at _ _ _ _ _ (by omega)).mono ?_; rw [HI.out]; rintro e w' ⟨rfl, hw⟩; replace hw := hw.symm; subst hw))
  go_ret
  exact ⟨rfl, HC.out.grown⟩
set_option maxHeartbeats 16000000 in
theorem one_n2 {w : World} {ad B : Addr} {T : List Tt} {i cp : Nat} {md nm : Txt} {fm ln el ba rs ds : Int} {fl : List Fl} {pr : List Pm} {fo po : Option Addr} {fc pc : Nat} (H : Tab w (some ad) T) (hB : ad.add (i * 10) = B) (hel : ∀ W, w.grownBy W none → ∀ j u, ([.int .i64 fm, .string (bs md), .string (bs nm), .int .i64 ln, .int .i64 el, .int .i64 ba, .slice fo fl.length fc, .slice po pr.length pc, .int .i64 rs, .int .i64 ds] : List Value)[j]? = some u → W.cell? (B.add j) = some u) (j1 : (i : Int) < T.length) (hmd : md.length ≤ lim) (hnm : nm.length ≤ lim) (hf : ¬ fm = 9) (hd : ds = 0) (q2 : md = []) (q3 : ¬ nm = []) :
    Calls Try.prog 51 #[.slice (some ad) T.length cp, .int .i64 i] w fun e w' => e = .returned (.bool false) ∧ w.grownBy w' none := by
  have HT := hide H
  have HEL := hide hel
  have HC := hide (Cx.start w (fun _ => False))
  have hlen := H.1
  have HW1 := hide (fun W : World => rword_at md W hmd)
  have HW2 := hide (fun W : World => rword_at nm W hnm)
  have M1 := True.intro
  clear H hel hmd hnm
  have f9 : (fm != 9) = true := by simpa using hf
  have f9' : (fm == 9) = false := by simpa using hf
  have d0 : (ds != 0) = false := by simpa using hd
  have p2 := em_t q2
  have p3 := em_f q3
  clear q2 q3
  (go_enter Try.func51, Try.ntmps51; go_upto_region 2 with (first | (refine at_load 48 rfl ?_; refine wl_run rfl 48 _ rfl rfl (run_load_s tyT _ [.int .i64 fm, .string (bs md), .string (bs nm), .int .i64 ln, .int .i64 el, .int .i64 ba, .slice fo fl.length fc, .slice po pr.length pc, .int .i64 rs, .int .i64 ds] rfl (HEL.out _ HC.out.grown)) ?_) | (refine at_alloc 48 rfl ?_; refine wl_alloc rfl 48 rfl _ zTy HC.out ?_; intro bt w' hn hc; (replace HC := hide hc; clear hc)) | ((refine at_store 48 rfl ?_; refine wl_store rfl 48 _ _ rfl rfl rfl tyT.sz rfl HC.out (by repeat (first | exact List.Mem.head _ | apply List.Mem.tail)) (by exact PutS.all _ _ rfl) (by repeat (first | exact Upd.here _ _ _ | apply Upd.there)) ?_; intro w' hc; (replace HC := hide hc; clear hc)); (obtain ⟨c0, c1, c2, c3, c4, c5, c6, c7, c8, c9⟩ := ten_f HC.out))))
  go_wp2_with (first | (clear M1; go_at_call 79; refine (HW1.out _).mono ?_; rintro e w' ⟨rfl, hw⟩; replace hw := hw.symm; subst hw) | (go_at_call 79; refine (HW2.out _).mono ?_; rintro e w' ⟨rfl, hw⟩; replace hw := hw.symm; subst hw) | (go_at_call 80; refine (holds_at _ _ (HT.out.kept HC.out.grown)).mono ?_; rw [HH.out]; rintro e w' ⟨rfl, hw⟩; replace hw := hw.symm; subst hw) | (go_at_call 81; refine (place_at _ _ _ _ _ (by omega)).mono ?_; rw [HI.out]; rintro e w' ⟨rfl, hw⟩; replace hw := hw.symm; subst hw))
  go_ret
  exact ⟨rfl, HC.out.grown⟩
set_option maxHeartbeats 16000000 in
theorem one_n3 {w : World} {ad B : Addr} {T : List Tt} {i cp : Nat} {md nm : Txt} {fm ln el ba rs ds : Int} {fl : List Fl} {pr : List Pm} {fo po : Option Addr} {fc pc : Nat} (H : Tab w (some ad) T) (hB : ad.add (i * 10) = B) (hel : ∀ W, w.grownBy W none → ∀ j u, ([.int .i64 fm, .string (bs md), .string (bs nm), .int .i64 ln, .int .i64 el, .int .i64 ba, .slice fo fl.length fc, .slice po pr.length pc, .int .i64 rs, .int .i64 ds] : List Value)[j]? = some u → W.cell? (B.add j) = some u) (j1 : (i : Int) < T.length) (hmd : md.length ≤ lim) (hnm : nm.length ≤ lim) (hf : ¬ fm = 9) (hd : ds = 0) (q2 : ¬ md = []) (q3 : nm = []) :
    Calls Try.prog 51 #[.slice (some ad) T.length cp, .int .i64 i] w fun e w' => e = .returned (.bool false) ∧ w.grownBy w' none := by
  have HT := hide H
  have HEL := hide hel
  have HC := hide (Cx.start w (fun _ => False))
  have hlen := H.1
  have HW1 := hide (fun W : World => rword_at md W hmd)
  have HW2 := hide (fun W : World => rword_at nm W hnm)
  have M1 := True.intro
  clear H hel hmd hnm
  have f9 : (fm != 9) = true := by simpa using hf
  have f9' : (fm == 9) = false := by simpa using hf
  have d0 : (ds != 0) = false := by simpa using hd
  have p2 := em_f q2
  have p3 := em_t q3
  clear q2 q3
  (go_enter Try.func51, Try.ntmps51; go_upto_region 2 with (first | (refine at_load 48 rfl ?_; refine wl_run rfl 48 _ rfl rfl (run_load_s tyT _ [.int .i64 fm, .string (bs md), .string (bs nm), .int .i64 ln, .int .i64 el, .int .i64 ba, .slice fo fl.length fc, .slice po pr.length pc, .int .i64 rs, .int .i64 ds] rfl (HEL.out _ HC.out.grown)) ?_) | (refine at_alloc 48 rfl ?_; refine wl_alloc rfl 48 rfl _ zTy HC.out ?_; intro bt w' hn hc; (replace HC := hide hc; clear hc)) | ((refine at_store 48 rfl ?_; refine wl_store rfl 48 _ _ rfl rfl rfl tyT.sz rfl HC.out (by repeat (first | exact List.Mem.head _ | apply List.Mem.tail)) (by exact PutS.all _ _ rfl) (by repeat (first | exact Upd.here _ _ _ | apply Upd.there)) ?_; intro w' hc; (replace HC := hide hc; clear hc)); (obtain ⟨c0, c1, c2, c3, c4, c5, c6, c7, c8, c9⟩ := ten_f HC.out))))
  go_wp2_with (first | (clear M1; go_at_call 79; refine (HW1.out _).mono ?_; rintro e w' ⟨rfl, hw⟩; replace hw := hw.symm; subst hw) | (go_at_call 79; refine (HW2.out _).mono ?_; rintro e w' ⟨rfl, hw⟩; replace hw := hw.symm; subst hw) | (go_at_call 80; refine (holds_at _ _ (HT.out.kept HC.out.grown)).mono ?_; rw [HH.out]; rintro e w' ⟨rfl, hw⟩; replace hw := hw.symm; subst hw) | (go_at_call 81; refine (place_at _ _ _ _ _ (by omega)).mono ?_; rw [HI.out]; rintro e w' ⟨rfl, hw⟩; replace hw := hw.symm; subst hw))
  go_ret
  exact ⟨rfl, HC.out.grown⟩
set_option maxHeartbeats 16000000 in
theorem one_n4 {w : World} {ad B : Addr} {T : List Tt} {i cp : Nat} {md nm : Txt} {fm ln el ba rs ds : Int} {fl : List Fl} {pr : List Pm} {fo po : Option Addr} {fc pc : Nat} (H : Tab w (some ad) T) (hB : ad.add (i * 10) = B) (hel : ∀ W, w.grownBy W none → ∀ j u, ([.int .i64 fm, .string (bs md), .string (bs nm), .int .i64 ln, .int .i64 el, .int .i64 ba, .slice fo fl.length fc, .slice po pr.length pc, .int .i64 rs, .int .i64 ds] : List Value)[j]? = some u → W.cell? (B.add j) = some u) (j1 : (i : Int) < T.length) (hmd : md.length ≤ lim) (hnm : nm.length ≤ lim) (hf : ¬ fm = 9) (hd : ds = 0) (q2 : ¬ md = []) (q3 : ¬ nm = []) (w1 : wordB md = false) :
    Calls Try.prog 51 #[.slice (some ad) T.length cp, .int .i64 i] w fun e w' => e = .returned (.bool false) ∧ w.grownBy w' none := by
  have HT := hide H
  have HEL := hide hel
  have HC := hide (Cx.start w (fun _ => False))
  have hlen := H.1
  have HW1 := hide (fun W : World => rword_at md W hmd)
  have HW2 := hide (fun W : World => rword_at nm W hnm)
  have M1 := True.intro
  clear H hel hmd hnm
  have f9 : (fm != 9) = true := by simpa using hf
  have f9' : (fm == 9) = false := by simpa using hf
  have d0 : (ds != 0) = false := by simpa using hd
  have p2 := em_f q2
  have p3 := em_f q3
  have m2 := em_e q2
  have m3 := em_e q3
  rw [w1] at HW1
  clear q2 q3 w1
  (go_enter Try.func51, Try.ntmps51; go_upto_region 2 with (first | (refine at_load 48 rfl ?_; refine wl_run rfl 48 _ rfl rfl (run_load_s tyT _ [.int .i64 fm, .string (bs md), .string (bs nm), .int .i64 ln, .int .i64 el, .int .i64 ba, .slice fo fl.length fc, .slice po pr.length pc, .int .i64 rs, .int .i64 ds] rfl (HEL.out _ HC.out.grown)) ?_) | (refine at_alloc 48 rfl ?_; refine wl_alloc rfl 48 rfl _ zTy HC.out ?_; intro bt w' hn hc; (replace HC := hide hc; clear hc)) | ((refine at_store 48 rfl ?_; refine wl_store rfl 48 _ _ rfl rfl rfl tyT.sz rfl HC.out (by repeat (first | exact List.Mem.head _ | apply List.Mem.tail)) (by exact PutS.all _ _ rfl) (by repeat (first | exact Upd.here _ _ _ | apply Upd.there)) ?_; intro w' hc; (replace HC := hide hc; clear hc)); (obtain ⟨c0, c1, c2, c3, c4, c5, c6, c7, c8, c9⟩ := ten_f HC.out))))
  go_wp2_with (first | (clear M1; go_at_call 79; refine (HW1.out _).mono ?_; rintro e w' ⟨rfl, hw⟩; replace hw := hw.symm; subst hw) | (go_at_call 79; refine (HW2.out _).mono ?_; rintro e w' ⟨rfl, hw⟩; replace hw := hw.symm; subst hw) | (go_at_call 80; refine (holds_at _ _ (HT.out.kept HC.out.grown)).mono ?_; rw [HH.out]; rintro e w' ⟨rfl, hw⟩; replace hw := hw.symm; subst hw) | (go_at_call 81; refine (place_at _ _ _ _ _ (by omega)).mono ?_; rw [HI.out]; rintro e w' ⟨rfl, hw⟩; replace hw := hw.symm; subst hw))
  go_ret
  exact ⟨rfl, HC.out.grown⟩
set_option maxHeartbeats 16000000 in
theorem one_n5 {w : World} {ad B : Addr} {T : List Tt} {i cp : Nat} {md nm : Txt} {fm ln el ba rs ds : Int} {fl : List Fl} {pr : List Pm} {fo po : Option Addr} {fc pc : Nat} (H : Tab w (some ad) T) (hB : ad.add (i * 10) = B) (hel : ∀ W, w.grownBy W none → ∀ j u, ([.int .i64 fm, .string (bs md), .string (bs nm), .int .i64 ln, .int .i64 el, .int .i64 ba, .slice fo fl.length fc, .slice po pr.length pc, .int .i64 rs, .int .i64 ds] : List Value)[j]? = some u → W.cell? (B.add j) = some u) (j1 : (i : Int) < T.length) (hmd : md.length ≤ lim) (hnm : nm.length ≤ lim) (hf : ¬ fm = 9) (hd : ds = 0) (q2 : ¬ md = []) (q3 : ¬ nm = []) (w1 : wordB md = true) (w2 : wordB nm = false) :
    Calls Try.prog 51 #[.slice (some ad) T.length cp, .int .i64 i] w fun e w' => e = .returned (.bool false) ∧ w.grownBy w' none := by
  have HT := hide H
  have HEL := hide hel
  have HC := hide (Cx.start w (fun _ => False))
  have hlen := H.1
  have HW1 := hide (fun W : World => rword_at md W hmd)
  have HW2 := hide (fun W : World => rword_at nm W hnm)
  have M1 := True.intro
  clear H hel hmd hnm
  have f9 : (fm != 9) = true := by simpa using hf
  have f9' : (fm == 9) = false := by simpa using hf
  have d0 : (ds != 0) = false := by simpa using hd
  have p2 := em_f q2
  have p3 := em_f q3
  have m2 := em_e q2
  have m3 := em_e q3
  rw [w1] at HW1
  rw [w2] at HW2
  clear q2 q3 w1 w2
  (go_enter Try.func51, Try.ntmps51; go_upto_region 2 with (first | (refine at_load 48 rfl ?_; refine wl_run rfl 48 _ rfl rfl (run_load_s tyT _ [.int .i64 fm, .string (bs md), .string (bs nm), .int .i64 ln, .int .i64 el, .int .i64 ba, .slice fo fl.length fc, .slice po pr.length pc, .int .i64 rs, .int .i64 ds] rfl (HEL.out _ HC.out.grown)) ?_) | (refine at_alloc 48 rfl ?_; refine wl_alloc rfl 48 rfl _ zTy HC.out ?_; intro bt w' hn hc; (replace HC := hide hc; clear hc)) | ((refine at_store 48 rfl ?_; refine wl_store rfl 48 _ _ rfl rfl rfl tyT.sz rfl HC.out (by repeat (first | exact List.Mem.head _ | apply List.Mem.tail)) (by exact PutS.all _ _ rfl) (by repeat (first | exact Upd.here _ _ _ | apply Upd.there)) ?_; intro w' hc; (replace HC := hide hc; clear hc)); (obtain ⟨c0, c1, c2, c3, c4, c5, c6, c7, c8, c9⟩ := ten_f HC.out))))
  go_wp2_with (first | (clear M1; go_at_call 79; refine (HW1.out _).mono ?_; rintro e w' ⟨rfl, hw⟩; replace hw := hw.symm; subst hw) | (go_at_call 79; refine (HW2.out _).mono ?_; rintro e w' ⟨rfl, hw⟩; replace hw := hw.symm; subst hw) | (go_at_call 80; refine (holds_at _ _ (HT.out.kept HC.out.grown)).mono ?_; rw [HH.out]; rintro e w' ⟨rfl, hw⟩; replace hw := hw.symm; subst hw) | (go_at_call 81; refine (place_at _ _ _ _ _ (by omega)).mono ?_; rw [HI.out]; rintro e w' ⟨rfl, hw⟩; replace hw := hw.symm; subst hw))
  go_ret
  exact ⟨rfl, HC.out.grown⟩
set_option maxHeartbeats 16000000 in
theorem one_r1 {w : World} {ad B : Addr} {T : List Tt} {i cp : Nat} {md nm : Txt} {fm ln el ba rs ds : Int} {fl : List Fl} {pr : List Pm} {fo po : Option Addr} {fc pc : Nat} (H : Tab w (some ad) T) (hB : ad.add (i * 10) = B) (hel : ∀ W, w.grownBy W none → ∀ j u, ([.int .i64 fm, .string (bs md), .string (bs nm), .int .i64 ln, .int .i64 el, .int .i64 ba, .slice fo fl.length fc, .slice po pr.length pc, .int .i64 rs, .int .i64 ds] : List Value)[j]? = some u → W.cell? (B.add j) = some u) (j1 : (i : Int) < T.length) (hmd : md.length ≤ lim) (hnm : nm.length ≤ lim) (hf : fm = 9) (q2 : md = []) :
    Calls Try.prog 51 #[.slice (some ad) T.length cp, .int .i64 i] w fun e w' => e = .returned (.bool false) ∧ w.grownBy w' none := by
  have HT := hide H
  have HEL := hide hel
  have HC := hide (Cx.start w (fun _ => False))
  have hlen := H.1
  have HW1 := hide (fun W : World => rword_at md W hmd)
  have HW2 := hide (fun W : World => rword_at nm W hnm)
  have M1 := True.intro
  clear H hel hmd hnm
  have f9 : (fm != 9) = false := by simpa using hf
  have f9' : (fm == 9) = true := by simpa using hf
  have p2 := em_t q2
  clear q2
  (go_enter Try.func51, Try.ntmps51; go_upto_region 2 with (first | (refine at_load 48 rfl ?_; refine wl_run rfl 48 _ rfl rfl (run_load_s tyT _ [.int .i64 fm, .string (bs md), .string (bs nm), .int .i64 ln, .int .i64 el, .int .i64 ba, .slice fo fl.length fc, .slice po pr.length pc, .int .i64 rs, .int .i64 ds] rfl (HEL.out _ HC.out.grown)) ?_) | (refine at_alloc 48 rfl ?_; refine wl_alloc rfl 48 rfl _ zTy HC.out ?_; intro bt w' hn hc; (replace HC := hide hc; clear hc)) | ((refine at_store 48 rfl ?_; refine wl_store rfl 48 _ _ rfl rfl rfl tyT.sz rfl HC.out (by repeat (first | exact List.Mem.head _ | apply List.Mem.tail)) (by exact PutS.all _ _ rfl) (by repeat (first | exact Upd.here _ _ _ | apply Upd.there)) ?_; intro w' hc; (replace HC := hide hc; clear hc)); (obtain ⟨c0, c1, c2, c3, c4, c5, c6, c7, c8, c9⟩ := ten_f HC.out))))
  go_wp2_with (first | (clear M1; go_at_call 79; refine (HW1.out _).mono ?_; rintro e w' ⟨rfl, hw⟩; replace hw := hw.symm; subst hw) | (go_at_call 79; refine (HW2.out _).mono ?_; rintro e w' ⟨rfl, hw⟩; replace hw := hw.symm; subst hw) | (go_at_call 80; refine (holds_at _ _ (HT.out.kept HC.out.grown)).mono ?_; rw [HH.out]; rintro e w' ⟨rfl, hw⟩; replace hw := hw.symm; subst hw) | (go_at_call 81; refine (place_at _ _ _ _ _ (by omega)).mono ?_; rw [HI.out]; rintro e w' ⟨rfl, hw⟩; replace hw := hw.symm; subst hw))
  go_ret
  exact ⟨rfl, HC.out.grown⟩
set_option maxHeartbeats 16000000 in
theorem one_r2 {w : World} {ad B : Addr} {T : List Tt} {i cp : Nat} {md nm : Txt} {fm ln el ba rs ds : Int} {fl : List Fl} {pr : List Pm} {fo po : Option Addr} {fc pc : Nat} (H : Tab w (some ad) T) (hB : ad.add (i * 10) = B) (hel : ∀ W, w.grownBy W none → ∀ j u, ([.int .i64 fm, .string (bs md), .string (bs nm), .int .i64 ln, .int .i64 el, .int .i64 ba, .slice fo fl.length fc, .slice po pr.length pc, .int .i64 rs, .int .i64 ds] : List Value)[j]? = some u → W.cell? (B.add j) = some u) (j1 : (i : Int) < T.length) (hmd : md.length ≤ lim) (hnm : nm.length ≤ lim) (hf : fm = 9) (q2 : ¬ md = []) (hd : ds < -1) :
    Calls Try.prog 51 #[.slice (some ad) T.length cp, .int .i64 i] w fun e w' => e = .returned (.bool false) ∧ w.grownBy w' none := by
  have HT := hide H
  have HEL := hide hel
  have HC := hide (Cx.start w (fun _ => False))
  have hlen := H.1
  have HW1 := hide (fun W : World => rword_at md W hmd)
  have HW2 := hide (fun W : World => rword_at nm W hnm)
  have M1 := True.intro
  clear H hel hmd hnm
  have f9 : (fm != 9) = false := by simpa using hf
  have f9' : (fm == 9) = true := by simpa using hf
  have p2 := em_f q2
  clear q2
  (go_enter Try.func51, Try.ntmps51; go_upto_region 2 with (first | (refine at_load 48 rfl ?_; refine wl_run rfl 48 _ rfl rfl (run_load_s tyT _ [.int .i64 fm, .string (bs md), .string (bs nm), .int .i64 ln, .int .i64 el, .int .i64 ba, .slice fo fl.length fc, .slice po pr.length pc, .int .i64 rs, .int .i64 ds] rfl (HEL.out _ HC.out.grown)) ?_) | (refine at_alloc 48 rfl ?_; refine wl_alloc rfl 48 rfl _ zTy HC.out ?_; intro bt w' hn hc; (replace HC := hide hc; clear hc)) | ((refine at_store 48 rfl ?_; refine wl_store rfl 48 _ _ rfl rfl rfl tyT.sz rfl HC.out (by repeat (first | exact List.Mem.head _ | apply List.Mem.tail)) (by exact PutS.all _ _ rfl) (by repeat (first | exact Upd.here _ _ _ | apply Upd.there)) ?_; intro w' hc; (replace HC := hide hc; clear hc)); (obtain ⟨c0, c1, c2, c3, c4, c5, c6, c7, c8, c9⟩ := ten_f HC.out))))
  go_wp2_with (first | (clear M1; go_at_call 79; refine (HW1.out _).mono ?_; rintro e w' ⟨rfl, hw⟩; replace hw := hw.symm; subst hw) | (go_at_call 79; refine (HW2.out _).mono ?_; rintro e w' ⟨rfl, hw⟩; replace hw := hw.symm; subst hw) | (go_at_call 80; refine (holds_at _ _ (HT.out.kept HC.out.grown)).mono ?_; rw [HH.out]; rintro e w' ⟨rfl, hw⟩; replace hw := hw.symm; subst hw) | (go_at_call 81; refine (place_at _ _ _ _ _ (by omega)).mono ?_; rw [HI.out]; rintro e w' ⟨rfl, hw⟩; replace hw := hw.symm; subst hw))
  go_ret
  exact ⟨rfl, HC.out.grown⟩
set_option maxHeartbeats 16000000 in
theorem one_r3 {w : World} {ad B : Addr} {T : List Tt} {i cp : Nat} {md nm : Txt} {fm ln el ba rs ds : Int} {fl : List Fl} {pr : List Pm} {fo po : Option Addr} {fc pc : Nat} (H : Tab w (some ad) T) (hB : ad.add (i * 10) = B) (hel : ∀ W, w.grownBy W none → ∀ j u, ([.int .i64 fm, .string (bs md), .string (bs nm), .int .i64 ln, .int .i64 el, .int .i64 ba, .slice fo fl.length fc, .slice po pr.length pc, .int .i64 rs, .int .i64 ds] : List Value)[j]? = some u → W.cell? (B.add j) = some u) (j1 : (i : Int) < T.length) (hmd : md.length ≤ lim) (hnm : nm.length ≤ lim) (hf : fm = 9) (q2 : ¬ md = []) (hd : -1 ≤ ds) (hd2 : 63 < ds) :
    Calls Try.prog 51 #[.slice (some ad) T.length cp, .int .i64 i] w fun e w' => e = .returned (.bool false) ∧ w.grownBy w' none := by
  have HT := hide H
  have HEL := hide hel
  have HC := hide (Cx.start w (fun _ => False))
  have hlen := H.1
  have HW1 := hide (fun W : World => rword_at md W hmd)
  have HW2 := hide (fun W : World => rword_at nm W hnm)
  have M1 := True.intro
  clear H hel hmd hnm
  have f9 : (fm != 9) = false := by simpa using hf
  have f9' : (fm == 9) = true := by simpa using hf
  have p2 := em_f q2
  clear q2
  (go_enter Try.func51, Try.ntmps51; go_upto_region 2 with (first | (refine at_load 48 rfl ?_; refine wl_run rfl 48 _ rfl rfl (run_load_s tyT _ [.int .i64 fm, .string (bs md), .string (bs nm), .int .i64 ln, .int .i64 el, .int .i64 ba, .slice fo fl.length fc, .slice po pr.length pc, .int .i64 rs, .int .i64 ds] rfl (HEL.out _ HC.out.grown)) ?_) | (refine at_alloc 48 rfl ?_; refine wl_alloc rfl 48 rfl _ zTy HC.out ?_; intro bt w' hn hc; (replace HC := hide hc; clear hc)) | ((refine at_store 48 rfl ?_; refine wl_store rfl 48 _ _ rfl rfl rfl tyT.sz rfl HC.out (by repeat (first | exact List.Mem.head _ | apply List.Mem.tail)) (by exact PutS.all _ _ rfl) (by repeat (first | exact Upd.here _ _ _ | apply Upd.there)) ?_; intro w' hc; (replace HC := hide hc; clear hc)); (obtain ⟨c0, c1, c2, c3, c4, c5, c6, c7, c8, c9⟩ := ten_f HC.out))))
  go_wp2_with (first | (clear M1; go_at_call 79; refine (HW1.out _).mono ?_; rintro e w' ⟨rfl, hw⟩; replace hw := hw.symm; subst hw) | (go_at_call 79; refine (HW2.out _).mono ?_; rintro e w' ⟨rfl, hw⟩; replace hw := hw.symm; subst hw) | (go_at_call 80; refine (holds_at _ _ (HT.out.kept HC.out.grown)).mono ?_; rw [HH.out]; rintro e w' ⟨rfl, hw⟩; replace hw := hw.symm; subst hw) | (go_at_call 81; refine (place_at _ _ _ _ _ (by omega)).mono ?_; rw [HI.out]; rintro e w' ⟨rfl, hw⟩; replace hw := hw.symm; subst hw))
  go_ret
  exact ⟨rfl, HC.out.grown⟩
set_option maxHeartbeats 16000000 in
theorem one_r4 {w : World} {ad B : Addr} {T : List Tt} {i cp : Nat} {md nm : Txt} {fm ln el ba rs ds : Int} {fl : List Fl} {pr : List Pm} {fo po : Option Addr} {fc pc : Nat} (H : Tab w (some ad) T) (hB : ad.add (i * 10) = B) (hel : ∀ W, w.grownBy W none → ∀ j u, ([.int .i64 fm, .string (bs md), .string (bs nm), .int .i64 ln, .int .i64 el, .int .i64 ba, .slice fo fl.length fc, .slice po pr.length pc, .int .i64 rs, .int .i64 ds] : List Value)[j]? = some u → W.cell? (B.add j) = some u) (j1 : (i : Int) < T.length) (hmd : md.length ≤ lim) (hnm : nm.length ≤ lim) (hf : fm = 9) (q2 : ¬ md = []) (hd : -1 ≤ ds) (hd2 : ds ≤ 63) (w1 : wordB md = false) :
    Calls Try.prog 51 #[.slice (some ad) T.length cp, .int .i64 i] w fun e w' => e = .returned (.bool false) ∧ w.grownBy w' none := by
  have HT := hide H
  have HEL := hide hel
  have HC := hide (Cx.start w (fun _ => False))
  have hlen := H.1
  have HW1 := hide (fun W : World => rword_at md W hmd)
  have HW2 := hide (fun W : World => rword_at nm W hnm)
  have M1 := True.intro
  clear H hel hmd hnm
  have f9 : (fm != 9) = false := by simpa using hf
  have f9' : (fm == 9) = true := by simpa using hf
  have p2 := em_f q2
  have m2 := em_e q2
  rw [w1] at HW1
  clear q2 w1
  (go_enter Try.func51, Try.ntmps51; go_upto_region 2 with (first | (refine at_load 48 rfl ?_; refine wl_run rfl 48 _ rfl rfl (run_load_s tyT _ [.int .i64 fm, .string (bs md), .string (bs nm), .int .i64 ln, .int .i64 el, .int .i64 ba, .slice fo fl.length fc, .slice po pr.length pc, .int .i64 rs, .int .i64 ds] rfl (HEL.out _ HC.out.grown)) ?_) | (refine at_alloc 48 rfl ?_; refine wl_alloc rfl 48 rfl _ zTy HC.out ?_; intro bt w' hn hc; (replace HC := hide hc; clear hc)) | ((refine at_store 48 rfl ?_; refine wl_store rfl 48 _ _ rfl rfl rfl tyT.sz rfl HC.out (by repeat (first | exact List.Mem.head _ | apply List.Mem.tail)) (by exact PutS.all _ _ rfl) (by repeat (first | exact Upd.here _ _ _ | apply Upd.there)) ?_; intro w' hc; (replace HC := hide hc; clear hc)); (obtain ⟨c0, c1, c2, c3, c4, c5, c6, c7, c8, c9⟩ := ten_f HC.out))))
  go_wp2_with (first | (clear M1; go_at_call 79; refine (HW1.out _).mono ?_; rintro e w' ⟨rfl, hw⟩; replace hw := hw.symm; subst hw) | (go_at_call 79; refine (HW2.out _).mono ?_; rintro e w' ⟨rfl, hw⟩; replace hw := hw.symm; subst hw) | (go_at_call 80; refine (holds_at _ _ (HT.out.kept HC.out.grown)).mono ?_; rw [HH.out]; rintro e w' ⟨rfl, hw⟩; replace hw := hw.symm; subst hw) | (go_at_call 81; refine (place_at _ _ _ _ _ (by omega)).mono ?_; rw [HI.out]; rintro e w' ⟨rfl, hw⟩; replace hw := hw.symm; subst hw))
  go_ret
  exact ⟨rfl, HC.out.grown⟩
set_option maxHeartbeats 16000000 in
theorem one_r5 {w : World} {ad B : Addr} {T : List Tt} {i cp : Nat} {md nm : Txt} {fm ln el ba rs ds : Int} {fl : List Fl} {pr : List Pm} {fo po : Option Addr} {fc pc : Nat} (H : Tab w (some ad) T) (hB : ad.add (i * 10) = B) (hel : ∀ W, w.grownBy W none → ∀ j u, ([.int .i64 fm, .string (bs md), .string (bs nm), .int .i64 ln, .int .i64 el, .int .i64 ba, .slice fo fl.length fc, .slice po pr.length pc, .int .i64 rs, .int .i64 ds] : List Value)[j]? = some u → W.cell? (B.add j) = some u) (j1 : (i : Int) < T.length) (hmd : md.length ≤ lim) (hnm : nm.length ≤ lim) (hf : fm = 9) (q2 : ¬ md = []) (hd : -1 ≤ ds) (hd2 : ds ≤ 63) (w1 : wordB md = true) (q3 : ¬ nm = []) (w2 : wordB nm = false) :
    Calls Try.prog 51 #[.slice (some ad) T.length cp, .int .i64 i] w fun e w' => e = .returned (.bool false) ∧ w.grownBy w' none := by
  have HT := hide H
  have HEL := hide hel
  have HC := hide (Cx.start w (fun _ => False))
  have hlen := H.1
  have HW1 := hide (fun W : World => rword_at md W hmd)
  have HW2 := hide (fun W : World => rword_at nm W hnm)
  have M1 := True.intro
  clear H hel hmd hnm
  have f9 : (fm != 9) = false := by simpa using hf
  have f9' : (fm == 9) = true := by simpa using hf
  have p2 := em_f q2
  have p3 := em_f q3
  have m2 := em_e q2
  have m3 := em_e q3
  rw [w1] at HW1
  rw [w2] at HW2
  clear q2 q3 w1 w2
  (go_enter Try.func51, Try.ntmps51; go_upto_region 2 with (first | (refine at_load 48 rfl ?_; refine wl_run rfl 48 _ rfl rfl (run_load_s tyT _ [.int .i64 fm, .string (bs md), .string (bs nm), .int .i64 ln, .int .i64 el, .int .i64 ba, .slice fo fl.length fc, .slice po pr.length pc, .int .i64 rs, .int .i64 ds] rfl (HEL.out _ HC.out.grown)) ?_) | (refine at_alloc 48 rfl ?_; refine wl_alloc rfl 48 rfl _ zTy HC.out ?_; intro bt w' hn hc; (replace HC := hide hc; clear hc)) | ((refine at_store 48 rfl ?_; refine wl_store rfl 48 _ _ rfl rfl rfl tyT.sz rfl HC.out (by repeat (first | exact List.Mem.head _ | apply List.Mem.tail)) (by exact PutS.all _ _ rfl) (by repeat (first | exact Upd.here _ _ _ | apply Upd.there)) ?_; intro w' hc; (replace HC := hide hc; clear hc)); (obtain ⟨c0, c1, c2, c3, c4, c5, c6, c7, c8, c9⟩ := ten_f HC.out))))
  go_wp2_with (first | (clear M1; go_at_call 79; refine (HW1.out _).mono ?_; rintro e w' ⟨rfl, hw⟩; replace hw := hw.symm; subst hw) | (go_at_call 79; refine (HW2.out _).mono ?_; rintro e w' ⟨rfl, hw⟩; replace hw := hw.symm; subst hw) | (go_at_call 80; refine (holds_at _ _ (HT.out.kept HC.out.grown)).mono ?_; rw [HH.out]; rintro e w' ⟨rfl, hw⟩; replace hw := hw.symm; subst hw) | (go_at_call 81; refine (place_at _ _ _ _ _ (by omega)).mono ?_; rw [HI.out]; rintro e w' ⟨rfl, hw⟩; replace hw := hw.symm; subst hw))
  go_ret
  exact ⟨rfl, HC.out.grown⟩
end Go.Proofs.Ythmldhppmpbadaa.Ty
