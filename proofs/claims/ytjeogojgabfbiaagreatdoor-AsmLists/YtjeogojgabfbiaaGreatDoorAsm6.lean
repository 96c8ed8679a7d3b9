/-
  What the document's own Line does with a word of the form 3, with a word that is no instruction, and as one.
-/
import Derived.Test.YtjeogojgabfbiaaGreatDoorAsm4
import Derived.Test.YtjeogojgabfbiaaGreatDoorAsm5
namespace Go.Proofs.YtjeogojgabfbiaaGreatDoor.Asm
open Go.RowKit Go.Proofs.YtjeogojgabfbiaaGreatDoor.Bits Go.Proofs.YtjeogojgabfbiaaGreatDoor.Gw Go.Proofs.YtjeogojgabfbiaaGreatDoor.Risc Go.Proofs.YtjeogojgabfbiaaGreatDoor.Tx
set_option linter.unusedVariables false
set_option linter.unusedSimpArgs false
set_option maxRecDepth 100000

set_option maxHeartbeats 4000000 in
theorem line_3 (x : Int) (u v : Bool) (ka : Nat) (b c op im : Int) (a16 : ka < 16) (c0 : 0 ≤ c) (c1 : c ≤ 15) (i0 : -100000000 ≤ im) (i1 : im ≤ 100000000)
    (hdec : ∀ w : World, Calls Tryz.prog 19 #[.int .u32 x] w fun e w' => e = .returned (.tuple #[ins 3 u v ka b c op im, .int .i64 0]) ∧ ∃ p : By, w' = gr w p) (w : World) :
    Calls Tryz.prog 8 #[.int .u32 x] w fun e w' => e = .returned (.tuple #[.string (bs (lineI 3 u v ka b c op im)), .int .i64 0]) ∧ w.grownBy w' none := by
  have HD := hide hdec
  clear hdec
  go_enter Tryz.func8, Tryz.ntmps8
  go_upto_region 2 with (go_at_call 19; refine (HD.out _).mono ?_; rintro e V0 ⟨rfl, hg⟩; have HG0 := hide (g_grown hg); clear hg)
  have HB : Hid ((V0.alloc (Obj.cells #[Value.int IntKind.i64 3, Value.bool u, Value.bool v, Value.int IntKind.i64 ↑ka, Value.int IntKind.i64 b, Value.int IntKind.i64 c, Value.int IntKind.i64 op, Value.int IntKind.i64 im] 47)).heap[V0.heap.size]? = some (Obj.cells #[Value.int IntKind.i64 3, Value.bool u, Value.bool v, Value.int IntKind.i64 ↑ka, Value.int IntKind.i64 b, Value.int IntKind.i64 c, Value.int IntKind.i64 op, Value.int IntKind.i64 im] 47)) := hide (heap_alloc_new V0 _)
  have HG := hide (grown_trans HG0.out (World.grownBy_alloc V0 (Obj.cells #[Value.int IntKind.i64 3, Value.bool u, Value.bool v, Value.int IntKind.i64 ↑ka, Value.int IntKind.i64 b, Value.int IntKind.i64 c, Value.int IntKind.i64 op, Value.int IntKind.i64 im] 47) none))
  generalize V0.alloc (Obj.cells #[Value.int IntKind.i64 3, Value.bool u, Value.bool v, Value.int IntKind.i64 ↑ka, Value.int IntKind.i64 b, Value.int IntKind.i64 c, Value.int IntKind.i64 op, Value.int IntKind.i64 im] 47) = V at HB HG ⊢
  generalize V0.heap.size = X at HB ⊢
  have d0 : V.cell? ⟨X, 0, none⟩ = some (.int .i64 3) := by rw [cell_of_row _ _ _ _ _ _ HB.out]; rfl
  have d1 : V.cell? ⟨X, 1, none⟩ = some (.bool u) := by rw [cell_of_row _ _ _ _ _ _ HB.out]; rfl
  have d2 : V.cell? ⟨X, 2, none⟩ = some (.bool v) := by rw [cell_of_row _ _ _ _ _ _ HB.out]; rfl
  have d3 : V.cell? ⟨X, 3, none⟩ = some (.int .i64 ka) := by rw [cell_of_row _ _ _ _ _ _ HB.out]; rfl
  have d5 : V.cell? ⟨X, 5, none⟩ = some (.int .i64 c) := by rw [cell_of_row _ _ _ _ _ _ HB.out]; rfl
  have d7 : V.cell? ⟨X, 7, none⟩ = some (.int .i64 im) := by rw [cell_of_row _ _ _ _ _ _ HB.out]; rfl
  have b0' : (⟨#[]⟩ : ByteArray) = bs [] := rfl
  have b1' : (⟨#[39]⟩ : ByteArray) = bs [39] := rfl
  have b2' : (⟨#[34]⟩ : ByteArray) = bs [34] := rfl
  have b3' : (⟨#[32]⟩ : ByteArray) = bs [32] := rfl
  have b4' : (⟨#[46]⟩ : ByteArray) = bs [46] := rfl
  have b5' : (⟨#[66]⟩ : ByteArray) = bs [66] := rfl
  have b6' : (⟨#[66, 76]⟩ : ByteArray) = bs [66, 76] := rfl
  have m1 : ∀ W : World, (Op.stringOp .add (bs []) (bs [39])).run Tryz.prog W = .ok (.string (bs [39])) W := add_at [] [39] (by decide)
  have m2 : ∀ W : World, (Op.stringOp .add (bs []) (bs [34])).run Tryz.prog W = .ok (.string (bs [34])) W := add_at [] [34] (by decide)
  have m3 : ∀ W : World, (Op.stringOp .add (bs [39]) (bs [34])).run Tryz.prog W = .ok (.string (bs [39, 34])) W := add_at [39] [34] (by decide)
  obtain ⟨M, hM⟩ : ∃ M, M = bN v := ⟨_, rfl⟩
  have hMl : M.length ≤ 2 := by rw [hM]; cases v <;> decide
  obtain ⟨N, hN'⟩ : ∃ N, N = nm cdNs ka := ⟨_, rfl⟩
  have lN : N.length ≤ 2 := by rw [hN']; exact cdNs_len _
  obtain ⟨A, hA⟩ : ∃ A, A = decI im := ⟨_, rfl⟩
  obtain ⟨C, hC⟩ : ∃ C, C = regI c := ⟨_, rfl⟩
  have hra := decI_le im
  have hrc := decI_le c
  have lA : A.length ≤ 14 := by rw [hA]; omega
  have lC : C.length ≤ 14 := by rw [hC]; simp [regI]; omega
  obtain ⟨L1, e1, a1⟩ := add_rule [46] N (by simp; omega)
  obtain ⟨L2, e2, a2⟩ := add_rule L1 [32] (by rw [e1]; simp; omega)
  obtain ⟨L3, e3, a3⟩ := add_rule M L2 (by rw [e2, e1]; simp; omega)
  obtain ⟨L4, e4, a4⟩ := add_rule L3 A (by rw [e3, e2, e1]; simp; omega)
  obtain ⟨L5, e5, a5⟩ := add_rule L3 C (by rw [e3, e2, e1]; simp; omega)
  have HE : Hid (lineI 3 true v ka b c op im = L4 ∧ lineI 3 false v ka b c op im = L5) := hide ⟨by rw [e4, e3, e2, e1, hA, hN', hM]; rfl, by rw [e5, e3, e2, e1, hC, hN', hM]; rfl⟩
  have RA := hide (dec_any im (by omega) (by omega))
  have RC := hide (reg_any c (by omega) (by omega))
  have HN : Hid (nm cdNs ka = N) := hide hN'.symm
  rw [← hA] at RA
  rw [← hC] at RC
  have k0 : (0 : Int) ≤ (ka : Int) := by omega
  have k1 : (ka : Int) < 16 := by omega
  have HK := hide a16
  clear e1 e2 e3 e4 e5 hra hrc lA lC lN hMl hA hC hN' HB HD c0 c1 i0 i1 a16
  cases u <;> cases v
  all_goals
    simp only [bN, if_true, Bool.false_eq_true, if_false] at hM
    subst hM
    go_upto_region 25 with fail
    refine wp_region_held_drew (S := fun W => W.cell? ⟨X, 3, none⟩ = some (.int .i64 ka)) (by kernel_rfl) d3 (fun hHeld => ?_)
    (refine wpAnyH_take (i := 0) (v := ?_) rfl (by kernel_rfl) (by kernel_rfl) (by kernel_rfl) (fun _ _ _ h => h) (Or.inl ⟨by rfl, ?_⟩) (by assumption) ?_; rotate_left 1; (focus (intro w hSw; (try dsimp only at hSw); go_simp; (try (with_reducible rfl)))); (try simp only [Act.put, List.getElem_toArray, List.getElem_cons_zero, List.getElem_cons_succ, List.setIfInBounds_toArray, List.set_cons_zero, List.set_cons_succ]))
    (refine wpAnyH_take (i := 2) (v := ?_) rfl (by kernel_rfl) (by kernel_rfl) (by kernel_rfl) (fun _ _ _ h => h) (Or.inl ⟨by rfl, ?_⟩) (by assumption) ?_; rotate_left 1; (focus (intro w hSw; (try dsimp only at hSw); go_simp; (try (with_reducible rfl)))); (try simp only [Act.put, List.getElem_toArray, List.getElem_cons_zero, List.getElem_cons_succ, List.setIfInBounds_toArray, List.set_cons_zero, List.set_cons_succ]))
    (refine wpAnyH_take (i := 3) (v := ?_) rfl (by kernel_rfl) (by kernel_rfl) (by kernel_rfl) (fun _ _ _ h => h) (Or.inl ⟨by rfl, ?_⟩) (by assumption) ?_; rotate_left 1; (focus (intro w hSw; (try dsimp only at hSw); go_simp; (try (with_reducible rfl)))); (try simp only [Act.put, List.getElem_toArray, List.getElem_cons_zero, List.getElem_cons_succ, List.setIfInBounds_toArray, List.set_cons_zero, List.set_cons_succ]))
    refine ready_turn (i := 1) rfl (by kernel_rfl) (fun K hK => ?_)
    go_simp
    refine (conds_any _).mono ?_
    rintro e w1 ⟨bb, rfl, hg, hb, hn⟩
    refine hK.out _ _ (fun W : World => W.cell? ⟨X, 3, none⟩ = some (.int .i64 ka) ∧ W.cell? ⟨bb, ka, none⟩ = some (.string (bs N))) (fun _ h => h.1) ⟨hg.cell d3 (by simp), by rw [hn ka HK.out, HN.out]⟩ (fun hHeld => ?_)
    have f1 : w1.cell? ⟨X, 1, none⟩ = some _ := hg.cell d1 (by simp)
    have f5 : w1.cell? ⟨X, 5, none⟩ = some (.int .i64 c) := hg.cell d5 (by simp)
    have f7 : w1.cell? ⟨X, 7, none⟩ = some (.int .i64 im) := hg.cell d7 (by simp)
    have H1 := hide hg
    clear hg hb hn
    (clear hK K; try simp only [Act.put, List.getElem_toArray, List.getElem_cons_zero, List.getElem_cons_succ, List.setIfInBounds_toArray, List.set_cons_zero, List.set_cons_succ])
    (refine wpAnyH_take (i := 4) (v := ?_) rfl (by kernel_rfl) (by kernel_rfl) (by kernel_rfl) (fun _ _ _ h => h) (Or.inl ⟨by rfl, ?_⟩) (by assumption) ?_; rotate_left 1; (focus (intro w hSw; (try dsimp only at hSw); go_simp; (try (with_reducible rfl)))); (try simp only [Act.put, List.getElem_toArray, List.getElem_cons_zero, List.getElem_cons_succ, List.setIfInBounds_toArray, List.set_cons_zero, List.set_cons_succ]))
    (refine wpAnyH_take (i := 5) (v := ?_) rfl (by kernel_rfl) (by kernel_rfl) (by kernel_rfl) (fun _ _ _ h => h) (Or.inl ⟨by rfl, ?_⟩) (by assumption) ?_; rotate_left 1; (focus (intro w hSw; (try dsimp only at hSw); go_simp; (try (with_reducible rfl)))); (try simp only [Act.put, List.getElem_toArray, List.getElem_cons_zero, List.getElem_cons_succ, List.setIfInBounds_toArray, List.set_cons_zero, List.set_cons_succ]))
    (refine wpAnyH_take (i := 6) (v := ?_) rfl (by kernel_rfl) (by kernel_rfl) (by kernel_rfl) (fun _ _ _ h => h) (Or.inl ⟨by rfl, ?_⟩) (by assumption) ?_; rotate_left 1; (focus (intro w hSw; (try dsimp only at hSw); go_simp; (try (with_reducible rfl)))); (try simp only [Act.put, List.getElem_toArray, List.getElem_cons_zero, List.getElem_cons_succ, List.setIfInBounds_toArray, List.set_cons_zero, List.set_cons_succ]))
    (refine wpAnyH_take (i := 7) (v := ?_) rfl (by kernel_rfl) (by kernel_rfl) (by kernel_rfl) (fun _ _ _ h => h) (Or.inl ⟨by rfl, ?_⟩) (by assumption) ?_; rotate_left 1; (focus (intro w hSw; (try dsimp only at hSw); go_simp; (try (with_reducible rfl)))); (try simp only [Act.put, List.getElem_toArray, List.getElem_cons_zero, List.getElem_cons_succ, List.setIfInBounds_toArray, List.set_cons_zero, List.set_cons_succ]))
    (refine wpAnyH_take (i := 8) (v := ?_) rfl (by kernel_rfl) (by kernel_rfl) (by kernel_rfl) (fun _ _ _ h => h) (Or.inl ⟨by rfl, ?_⟩) (by assumption) ?_; rotate_left 1; (focus (intro w hSw; (try dsimp only at hSw); go_simp; (try (with_reducible rfl)))); (try simp only [Act.put, List.getElem_toArray, List.getElem_cons_zero, List.getElem_cons_succ, List.setIfInBounds_toArray, List.set_cons_zero, List.set_cons_succ]))
    (refine wpAnyH_take (i := 9) (v := ?_) rfl (by kernel_rfl) (by kernel_rfl) (by kernel_rfl) (fun _ _ _ h => h) (Or.inl ⟨by rfl, ?_⟩) (by assumption) ?_; rotate_left 1; (focus (intro w hSw; (try dsimp only at hSw); go_simp; (try (with_reducible rfl)))); (try simp only [Act.put, List.getElem_toArray, List.getElem_cons_zero, List.getElem_cons_succ, List.setIfInBounds_toArray, List.set_cons_zero, List.set_cons_succ]))
    refine wpAnyH_done (by kernel_rfl) ?_ _
    go_wp2_with (first
      | (go_at_call 22; refine (RA.out _).mono ?_; rintro e w2 ⟨rfl, hg⟩; have H2 := hide hg; clear hg)
      | (go_at_call 21; refine (RC.out _).mono ?_; rintro e w2 ⟨rfl, hg⟩; have H2 := hide hg; clear hg))
    go_ret2
    exact ⟨by first | (rw [HE.out.1]; rfl) | (rw [HE.out.2]; rfl), grown_trans HG.out (grown_trans (drew_g _) (grown_trans H1.out H2.out))⟩
set_option maxHeartbeats 1000000 in
theorem line_no (x : Int) (hdec : ∀ w : World, Calls Tryz.prog 19 #[.int .u32 x] w fun e w' => e = .returned (.tuple #[zIns, .int .i64 20]) ∧ ∃ p : By, w' = gr w p) (w : World) :
    Calls Tryz.prog 8 #[.int .u32 x] w fun e w' => e = .returned (.tuple #[.string (bs []), .int .i64 20]) ∧ w.grownBy w' none := by
  have HD := hide hdec
  clear hdec
  go_enter Tryz.func8, Tryz.ntmps8
  go_wp2_with (go_at_call 19; refine (HD.out _).mono ?_; rintro e V0 ⟨rfl, hg⟩; have HG0 := hide (g_grown hg); clear hg)
  go_ret2
  exact ⟨rfl, grown_trans HG0.out (World.grownBy_alloc _ _ none)⟩
end Go.Proofs.YtjeogojgabfbiaaGreatDoor.Asm
