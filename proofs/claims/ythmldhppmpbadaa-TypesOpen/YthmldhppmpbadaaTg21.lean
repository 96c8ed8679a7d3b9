/-
  The document's own tables (package spinetref13): two types held against one another, heads that differ, further on.
-/
import Derived.Test.YthmldhppmpbadaaTg17
namespace Go.Proofs.Ythmldhppmpbadaa.Ty
open Go.RowKit hiding Hid
open Go.Maps Go.Proofs.Ythmldhppmpbadaa.Tx Go.Proofs.Ythmldhppmpbadaa.Lx Go.Proofs.Ythmldhppmpbadaa.Tr Go.Proofs.Ythmldhppmpbadaa.Mp
set_option linter.unusedVariables false
set_option linter.unusedSimpArgs false
set_option maxRecDepth 100000

set_option maxHeartbeats 8000000 in
theorem alike_n5 {w : World} {fo po fo2 po2 : Option Addr} {fc pc fc2 pc2 : Nat} {fm : Int} {md : Txt} {nm : Txt} {ln : Int} {el : Int} {ba : Int} {rs : Int} {ds : Int} {fl : List Fl} {pr : List Pm} {ba2 : Int} {rs2 : Int} {ds2 : Int} {fl2 : List Fl} {pr2 : List Pm} (h : ba ≠ ba2) (q1 : fl.length ≤ 1000000) (q2 : pr.length ≤ 1000000) (q3 : fl2.length ≤ 1000000) (q4 : pr2.length ≤ 1000000) : Calls Try.prog 50 #[.agg (laC ⟨⟨fm, md, nm, ln, el, ba, fl, pr, rs, ds⟩, fo, fc, po, pc⟩).toArray, .agg (laC ⟨⟨fm, md, nm, ln, el, ba2, fl2, pr2, rs2, ds2⟩, fo2, fc2, po2, pc2⟩).toArray] w fun e w' => e = .returned (.bool false) ∧ w.grownBy w' none := by
  have HC := hide (Cx.start w (fun _ => False))
  have k1 : (fl.length : Int) ≤ 1000000 := by omega
  have k2 : (pr.length : Int) ≤ 1000000 := by omega
  have hn : (ba != ba2) = true := by simpa using h
  have k3 : (fl2.length : Int) ≤ 1000000 := by omega
  have k4 : (pr2.length : Int) ≤ 1000000 := by omega
  clear h q1 q2 q3 q4
  unfold laC
  dsimp only
  (go_enter Try.func50, Try.ntmps50; have M1 := True.intro; go_upto_region 1 with (first | (clear M1; (refine at_box 48 rfl ?_; refine wl_box rfl 48 _ rfl _ rfl HC.out ?_; intro b1 w' hn hc; (replace HC := hide hc; clear hc))) | ((refine at_box 48 rfl ?_; refine wl_box rfl 48 _ rfl _ rfl HC.out ?_; intro b2 w' hn hc; (replace HC := hide hc; clear hc)); (obtain ⟨c0, c1, c2, c3, c4, c5, c6, c7, c8, c9⟩ := ten_f HC.out; obtain ⟨e0, e1, e2, e3, e4, e5, e6, e7, e8, e9⟩ := ten_f HC.out.drop))))
  go_wp2
  go_ret
  exact ⟨rfl, HC.out.grown⟩
set_option maxHeartbeats 8000000 in
theorem alike_n6 {w : World} {fo po fo2 po2 : Option Addr} {fc pc fc2 pc2 : Nat} {fm : Int} {md : Txt} {nm : Txt} {ln : Int} {el : Int} {ba : Int} {rs : Int} {ds : Int} {fl : List Fl} {pr : List Pm} {rs2 : Int} {ds2 : Int} {fl2 : List Fl} {pr2 : List Pm} (h : rs ≠ rs2) (q1 : fl.length ≤ 1000000) (q2 : pr.length ≤ 1000000) (q3 : fl2.length ≤ 1000000) (q4 : pr2.length ≤ 1000000) : Calls Try.prog 50 #[.agg (laC ⟨⟨fm, md, nm, ln, el, ba, fl, pr, rs, ds⟩, fo, fc, po, pc⟩).toArray, .agg (laC ⟨⟨fm, md, nm, ln, el, ba, fl2, pr2, rs2, ds2⟩, fo2, fc2, po2, pc2⟩).toArray] w fun e w' => e = .returned (.bool false) ∧ w.grownBy w' none := by
  have HC := hide (Cx.start w (fun _ => False))
  have k1 : (fl.length : Int) ≤ 1000000 := by omega
  have k2 : (pr.length : Int) ≤ 1000000 := by omega
  have hn : (rs != rs2) = true := by simpa using h
  have k3 : (fl2.length : Int) ≤ 1000000 := by omega
  have k4 : (pr2.length : Int) ≤ 1000000 := by omega
  clear h q1 q2 q3 q4
  unfold laC
  dsimp only
  (go_enter Try.func50, Try.ntmps50; have M1 := True.intro; go_upto_region 1 with (first | (clear M1; (refine at_box 48 rfl ?_; refine wl_box rfl 48 _ rfl _ rfl HC.out ?_; intro b1 w' hn hc; (replace HC := hide hc; clear hc))) | ((refine at_box 48 rfl ?_; refine wl_box rfl 48 _ rfl _ rfl HC.out ?_; intro b2 w' hn hc; (replace HC := hide hc; clear hc)); (obtain ⟨c0, c1, c2, c3, c4, c5, c6, c7, c8, c9⟩ := ten_f HC.out; obtain ⟨e0, e1, e2, e3, e4, e5, e6, e7, e8, e9⟩ := ten_f HC.out.drop))))
  go_wp2
  go_ret
  exact ⟨rfl, HC.out.grown⟩
set_option maxHeartbeats 8000000 in
theorem alike_n7 {w : World} {fo po fo2 po2 : Option Addr} {fc pc fc2 pc2 : Nat} {fm : Int} {md : Txt} {nm : Txt} {ln : Int} {el : Int} {ba : Int} {rs : Int} {ds : Int} {fl : List Fl} {pr : List Pm} {ds2 : Int} {fl2 : List Fl} {pr2 : List Pm} (h : ds ≠ ds2) (q1 : fl.length ≤ 1000000) (q2 : pr.length ≤ 1000000) (q3 : fl2.length ≤ 1000000) (q4 : pr2.length ≤ 1000000) : Calls Try.prog 50 #[.agg (laC ⟨⟨fm, md, nm, ln, el, ba, fl, pr, rs, ds⟩, fo, fc, po, pc⟩).toArray, .agg (laC ⟨⟨fm, md, nm, ln, el, ba, fl2, pr2, rs, ds2⟩, fo2, fc2, po2, pc2⟩).toArray] w fun e w' => e = .returned (.bool false) ∧ w.grownBy w' none := by
  have HC := hide (Cx.start w (fun _ => False))
  have k1 : (fl.length : Int) ≤ 1000000 := by omega
  have k2 : (pr.length : Int) ≤ 1000000 := by omega
  have hn : (ds != ds2) = true := by simpa using h
  have k3 : (fl2.length : Int) ≤ 1000000 := by omega
  have k4 : (pr2.length : Int) ≤ 1000000 := by omega
  clear h q1 q2 q3 q4
  unfold laC
  dsimp only
  (go_enter Try.func50, Try.ntmps50; have M1 := True.intro; go_upto_region 1 with (first | (clear M1; (refine at_box 48 rfl ?_; refine wl_box rfl 48 _ rfl _ rfl HC.out ?_; intro b1 w' hn hc; (replace HC := hide hc; clear hc))) | ((refine at_box 48 rfl ?_; refine wl_box rfl 48 _ rfl _ rfl HC.out ?_; intro b2 w' hn hc; (replace HC := hide hc; clear hc)); (obtain ⟨c0, c1, c2, c3, c4, c5, c6, c7, c8, c9⟩ := ten_f HC.out; obtain ⟨e0, e1, e2, e3, e4, e5, e6, e7, e8, e9⟩ := ten_f HC.out.drop))))
  go_wp2
  go_ret
  exact ⟨rfl, HC.out.grown⟩
set_option maxHeartbeats 8000000 in
theorem alike_n8 {w : World} {fo po fo2 po2 : Option Addr} {fc pc fc2 pc2 : Nat} {fm : Int} {md : Txt} {nm : Txt} {ln : Int} {el : Int} {ba : Int} {rs : Int} {ds : Int} {fl : List Fl} {pr : List Pm} {fl2 : List Fl} {pr2 : List Pm} (h : fl.length ≠ fl2.length) (q1 : fl.length ≤ 1000000) (q2 : pr.length ≤ 1000000) (q3 : fl2.length ≤ 1000000) (q4 : pr2.length ≤ 1000000) : Calls Try.prog 50 #[.agg (laC ⟨⟨fm, md, nm, ln, el, ba, fl, pr, rs, ds⟩, fo, fc, po, pc⟩).toArray, .agg (laC ⟨⟨fm, md, nm, ln, el, ba, fl2, pr2, rs, ds⟩, fo2, fc2, po2, pc2⟩).toArray] w fun e w' => e = .returned (.bool false) ∧ w.grownBy w' none := by
  have HC := hide (Cx.start w (fun _ => False))
  have k1 : (fl.length : Int) ≤ 1000000 := by omega
  have k2 : (pr.length : Int) ≤ 1000000 := by omega
  have hn : ((fl.length : Int) != (fl2.length : Int)) = true := by simp; omega
  have k3 : (fl2.length : Int) ≤ 1000000 := by omega
  have k4 : (pr2.length : Int) ≤ 1000000 := by omega
  clear h q1 q2 q3 q4
  unfold laC
  dsimp only
  (go_enter Try.func50, Try.ntmps50; have M1 := True.intro; go_upto_region 1 with (first | (clear M1; (refine at_box 48 rfl ?_; refine wl_box rfl 48 _ rfl _ rfl HC.out ?_; intro b1 w' hn hc; (replace HC := hide hc; clear hc))) | ((refine at_box 48 rfl ?_; refine wl_box rfl 48 _ rfl _ rfl HC.out ?_; intro b2 w' hn hc; (replace HC := hide hc; clear hc)); (obtain ⟨c0, c1, c2, c3, c4, c5, c6, c7, c8, c9⟩ := ten_f HC.out; obtain ⟨e0, e1, e2, e3, e4, e5, e6, e7, e8, e9⟩ := ten_f HC.out.drop))))
  go_wp2
  go_ret
  exact ⟨rfl, HC.out.grown⟩
set_option maxHeartbeats 8000000 in
theorem alike_n9 {w : World} {fo po fo2 po2 : Option Addr} {fc pc fc2 pc2 : Nat} {fm : Int} {md : Txt} {nm : Txt} {ln : Int} {el : Int} {ba : Int} {rs : Int} {ds : Int} {fl : List Fl} {pr : List Pm} {fl2 : List Fl} {pr2 : List Pm} (hfl : fl.length = fl2.length) (h : pr.length ≠ pr2.length) (q1 : fl.length ≤ 1000000) (q2 : pr.length ≤ 1000000) (q3 : fl2.length ≤ 1000000) (q4 : pr2.length ≤ 1000000) : Calls Try.prog 50 #[.agg (laC ⟨⟨fm, md, nm, ln, el, ba, fl, pr, rs, ds⟩, fo, fc, po, pc⟩).toArray, .agg (laC ⟨⟨fm, md, nm, ln, el, ba, fl2, pr2, rs, ds⟩, fo2, fc2, po2, pc2⟩).toArray] w fun e w' => e = .returned (.bool false) ∧ w.grownBy w' none := by
  have HC := hide (Cx.start w (fun _ => False))
  have k1 : (fl.length : Int) ≤ 1000000 := by omega
  have k2 : (pr.length : Int) ≤ 1000000 := by omega
  have hn : ((pr.length : Int) != (pr2.length : Int)) = true := by simp; omega
  have hlf : ((fl.length : Int) != (fl2.length : Int)) = false := by simp [hfl]
  have k3 : (fl2.length : Int) ≤ 1000000 := by omega
  have k4 : (pr2.length : Int) ≤ 1000000 := by omega
  clear h q1 q2 q3 q4 hfl
  unfold laC
  dsimp only
  (go_enter Try.func50, Try.ntmps50; have M1 := True.intro; go_upto_region 1 with (first | (clear M1; (refine at_box 48 rfl ?_; refine wl_box rfl 48 _ rfl _ rfl HC.out ?_; intro b1 w' hn hc; (replace HC := hide hc; clear hc))) | ((refine at_box 48 rfl ?_; refine wl_box rfl 48 _ rfl _ rfl HC.out ?_; intro b2 w' hn hc; (replace HC := hide hc; clear hc)); (obtain ⟨c0, c1, c2, c3, c4, c5, c6, c7, c8, c9⟩ := ten_f HC.out; obtain ⟨e0, e1, e2, e3, e4, e5, e6, e7, e8, e9⟩ := ten_f HC.out.drop))))
  go_wp2
  go_ret
  exact ⟨rfl, HC.out.grown⟩
end Go.Proofs.Ythmldhppmpbadaa.Ty
