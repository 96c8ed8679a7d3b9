/-
  Types: pairOf, byName, both.
-/
import Derived.Test.YthmldhppmpbadaaY8
import Derived.Test.YthmldhppmpbadaaTy19
import Derived.Test.YthmldhppmpbadaaY15
namespace Go.Proofs.Ythmldhppmpbadaa.Ty
open Go.RowKit hiding Hid
open Go.Maps Go.Proofs.Ythmldhppmpbadaa.Tx Go.Proofs.Ythmldhppmpbadaa.Lx Go.Proofs.Ythmldhppmpbadaa.Tr Go.Proofs.Ythmldhppmpbadaa.Mp
set_option linter.unusedVariables false
set_option linter.unusedSimpArgs false
set_option maxRecDepth 100000

theorem tyPr : TyS Try.prog 104 2 := tyS_of Try.underlying104 rfl (by kernel_rfl)
theorem zPr : (Try.prog.info? 104).bind (fun i => i.zero.map (·.cells)) = some ([.int .i64 0, .int .i64 0] : List Value).toArray := by kernel_rfl
set_option maxHeartbeats 4000000 in
theorem pairOf_at (w : World) (x y : Int) : Calls Try.prog 112 #[.int .i64 x, .int .i64 y] w (SzO w (pairV (mmP x y))) := by
  have HC := hide (Cx.start w (fun _ => False))
  go_enter Try.func112, Try.ntmps112
  go_wp2_with (first | (refine at_alloc 104 rfl ?_; refine wl_alloc rfl 104 rfl _ zPr HC.out ?_; intro b w' hn hc; (replace HC := hide hc; clear hc)) | (refine at_store 104 rfl ?_; refine wl_store rfl 104 _ _ rfl rfl rfl tyPr.sz rfl HC.out (by repeat (first | exact List.Mem.head _ | apply List.Mem.tail)) (by exact PutS.all _ _ rfl) (by repeat (first | exact Upd.here _ _ _ | apply Upd.there)) ?_; intro w' hc; (replace HC := hide hc; clear hc)))
  all_goals refine ret_cell Try.results112 rfl rfl HC.out (by repeat (first | exact List.Mem.head _ | apply List.Mem.tail)) tyPr rfl ?_
  all_goals refine ⟨?_, HC.out.grown⟩
  all_goals (show Ending.returned (Value.agg #[.int .i64 (if y < x then y else x), .int .i64 (if x < y then y else x)]) = _)
  all_goals (rw [show (if y < x then y else x) = min x y by (split <;> omega), show (if x < y then y else x) = max x y by (split <;> omega)]; rfl)
set_option maxHeartbeats 4000000 in
theorem byName_at (w : World) (la : La) : Calls Try.prog 114 #[.agg (laC la).toArray] w (SzO w (.bool (byN la.x))) := by
  have HC := hide (Cx.start w (fun _ => False))
  obtain ⟨⟨fm, md, nm, ln, el, ba, fl, pm, rs, ds⟩, fo, fc, po, pc⟩ := la
  obtain ⟨b9, h9⟩ : ∃ b, (fm == 9) = b := ⟨_, rfl⟩
  obtain ⟨b11, h11⟩ : ∃ b, (fm == 11) = b := ⟨_, rfl⟩
  have hb : byN ⟨fm, md, nm, ln, el, ba, fl, pm, rs, ds⟩ = (!b9 && !b11) := by unfold byN; dsimp only; rw [← h9, ← h11]; rfl
  dsimp only
  rw [hb]
  have k9 : (fm != 9) = !b9 := by rw [← h9]; rfl
  have k11 : (fm != 11) = !b11 := by rw [← h11]; rfl
  unfold laC
  clear hb
  cases b9 <;> cases b11
  all_goals go_enter Try.func114, Try.ntmps114
  all_goals go_wp2
  all_goals go_ret
  all_goals (exact ⟨rfl, by first | exact HC.out.grown | exact World.grownBy_alloc _ _ none⟩)
end Go.Proofs.Ythmldhppmpbadaa.Ty
