/-
  Package token: newTables.
-/
import Derived.Test.YthnkkcamfcmhmaaDoorPk6
namespace Go.Proofs.YthnkkcamfcmhmaaDoor.Lx
open Go.RowKit Go.Maps Go.Proofs.YthnkkcamfcmhmaaDoor.Tx Go.Proofs.YthnkkcamfcmhmaaDoor.Mp
set_option linter.unusedVariables false
set_option linter.unusedSimpArgs false
set_option maxRecDepth 100000

theorem build_tb (mb : Nat) (W : World) : (Instr.build 68 #[(0, .agg (clA 9 0)), (1, .map (some mb))]).run Tryd.prog W = .ok (.agg ((clA 9 0).push (.map (some mb)))) W := by kernel_rfl
theorem box_tb (R : Array Value) (W : World) : (Instr.box 68 (.agg R)).run Tryd.prog W = .ok (.pointer (some ⟨W.heap.size, 0, none⟩)) (W.alloc (.cells R 68)) := rfl
theorem wl_build {ops : Array Oper} {rest : List Oper} {o : Oper} {a : Act} {w : World} {Q : Exit → Act → World → Prop} (hgd : o.guard = none) (ho : o.op = .build 68 #[(0, .tmp 1), (1, .tmp 2)]) (K : Array Value) (hK : clA 9 0 = K) (mb : Nat) (h1 : a.eval (.tmp 1) = .agg K) (h2 : a.eval (.tmp 2) = .map (some mb))
    (h : wpList Tryd.prog ops Q rest (a.put o.dst (.agg (K.push (.map (some mb))))) w) : wpList Tryd.prog ops Q (o :: rest) a w := by
  subst hK
  refine wpList_plain hgd fun K' hK' => ?_
  unfold Oper.wp execOp
  simp only [ho, h1, h2, List.map_toArray, List.map_cons, List.map_nil, build_tb, Sem.run_bind, Sem.run_pure, Result.andThen_ok]
  exact hK' _ _ h
set_option maxHeartbeats 2000000 in
theorem new_at (w : World) (A : Gt w) : Calls Tryd.prog 15 #[] w fun e w' => ∃ tb, e = .returned (.pointer (some ⟨tb, 0, none⟩)) ∧ Tb w' tb ∧ w.grownBy w' none := by
  have HCl := hide (classes_at w)
  have HK := hide (fun W (h : w.grownBy W none) => kinds_at W (A.g h))
  obtain ⟨K, hK⟩ : ∃ K, clA 9 0 = K := ⟨_, rfl⟩
  rw [hK] at HCl
  have hbx := box_tb
  have HKe := hide hK
  clear hK A
  go_enter Tryd.func15, Tryd.ntmps15
  go_wp2_with (first
    | (go_at_call 26; refine HCl.out.mono ?_; rintro e w1 ⟨rfl, hg⟩; have G1 := hide hg; clear hg)
    | (go_at_call 27; refine (HK.out _ G1.out).mono ?_; rintro e w2 ⟨mb, rfl, hm, hg⟩; have HM := hide hm; have G2 := hide (grown_trans G1.out hg); clear hg hm)
    | (refine wl_build rfl rfl K HKe.out mb rfl rfl ?_))
  go_ret
  refine ⟨w2.heap.size, rfl, ⟨fun j hj => ?_, ⟨mb, ?_, HM.out.kept (alloc_g _ _) (by simp)⟩, ⟨_, _, heap_alloc_new _ _⟩⟩, grown_trans G2.out (alloc_g _ _)⟩
  · rw [cell_of_row _ _ _ _ _ _ (heap_alloc_new _ _), ← HKe.out, Array.getElem?_push_lt (by rw [clA_size]; exact hj)]
    have := clA_at 9 0 j hj
    rw [clP_zero] at this
    rw [Array.getElem?_eq_getElem (by rw [clA_size]; exact hj)] at this
    exact this
  · rw [cell_of_row _ _ _ _ _ _ (heap_alloc_new _ _), ← HKe.out]
    have := clA_size 9 0
    rw [Array.getElem?_push, if_pos this.symm]
end Go.Proofs.YthnkkcamfcmhmaaDoor.Lx
