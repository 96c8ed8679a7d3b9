/-
  What the document's own Line does with a word of the forms 2 and 3, and with a word that is no instruction.
-/
import Derived.Test.YtjeogojgabfbiaaGreatDoorAsm3
namespace Go.Proofs.YtjeogojgabfbiaaGreatDoor.Asm
open Go.RowKit Go.Proofs.YtjeogojgabfbiaaGreatDoor.Bits Go.Proofs.YtjeogojgabfbiaaGreatDoor.Gw Go.Proofs.YtjeogojgabfbiaaGreatDoor.Risc Go.Proofs.YtjeogojgabfbiaaGreatDoor.Tx
set_option linter.unusedVariables false
set_option linter.unusedSimpArgs false
set_option maxRecDepth 100000

set_option maxHeartbeats 4000000 in
theorem line_2 (x : Int) (u v : Bool) (a b c op im : Int) (a0 : 0 ≤ a) (a1 : a ≤ 15) (b0 : 0 ≤ b) (b1 : b ≤ 15) (i0 : -1000000 ≤ im) (i1 : im ≤ 1000000)
    (hdec : ∀ w : World, Calls Tryz.prog 19 #[.int .u32 x] w fun e w' => e = .returned (.tuple #[ins 2 u v a b c op im, .int .i64 0]) ∧ ∃ p : By, w' = gr w p) (w : World) :
    Calls Tryz.prog 8 #[.int .u32 x] w fun e w' => e = .returned (.tuple #[.string (bs (lineI 2 u v a b c op im)), .int .i64 0]) ∧ w.grownBy w' none := by
  have HD := hide hdec
  clear hdec
  go_enter Tryz.func8, Tryz.ntmps8
  go_upto_region 2 with (go_at_call 19; refine (HD.out _).mono ?_; rintro e V0 ⟨rfl, hg⟩; have HG0 := hide (g_grown hg); clear hg)
  have HB : Hid ((V0.alloc (Obj.cells #[Value.int IntKind.i64 2, Value.bool u, Value.bool v, Value.int IntKind.i64 a, Value.int IntKind.i64 b, Value.int IntKind.i64 c, Value.int IntKind.i64 op, Value.int IntKind.i64 im] 47)).heap[V0.heap.size]? = some (Obj.cells #[Value.int IntKind.i64 2, Value.bool u, Value.bool v, Value.int IntKind.i64 a, Value.int IntKind.i64 b, Value.int IntKind.i64 c, Value.int IntKind.i64 op, Value.int IntKind.i64 im] 47)) := hide (heap_alloc_new V0 _)
  have HG := hide (grown_trans HG0.out (World.grownBy_alloc V0 (Obj.cells #[Value.int IntKind.i64 2, Value.bool u, Value.bool v, Value.int IntKind.i64 a, Value.int IntKind.i64 b, Value.int IntKind.i64 c, Value.int IntKind.i64 op, Value.int IntKind.i64 im] 47) none))
  generalize V0.alloc (Obj.cells #[Value.int IntKind.i64 2, Value.bool u, Value.bool v, Value.int IntKind.i64 a, Value.int IntKind.i64 b, Value.int IntKind.i64 c, Value.int IntKind.i64 op, Value.int IntKind.i64 im] 47) = V at HB HG ⊢
  generalize V0.heap.size = X at HB ⊢
  have c0 : V.cell? ⟨X, 0, none⟩ = some (.int .i64 2) := by rw [cell_of_row _ _ _ _ _ _ HB.out]; rfl
  have c1 : V.cell? ⟨X, 1, none⟩ = some (.bool u) := by rw [cell_of_row _ _ _ _ _ _ HB.out]; rfl
  have c2 : V.cell? ⟨X, 2, none⟩ = some (.bool v) := by rw [cell_of_row _ _ _ _ _ _ HB.out]; rfl
  have c3 : V.cell? ⟨X, 3, none⟩ = some (.int .i64 a) := by rw [cell_of_row _ _ _ _ _ _ HB.out]; rfl
  have c4 : V.cell? ⟨X, 4, none⟩ = some (.int .i64 b) := by rw [cell_of_row _ _ _ _ _ _ HB.out]; rfl
  have c7 : V.cell? ⟨X, 7, none⟩ = some (.int .i64 im) := by rw [cell_of_row _ _ _ _ _ _ HB.out]; rfl
  have b0' : (⟨#[]⟩ : ByteArray) = bs [] := rfl
  have b1' : (⟨#[39]⟩ : ByteArray) = bs [39] := rfl
  have b2' : (⟨#[34]⟩ : ByteArray) = bs [34] := rfl
  have b3' : (⟨#[32]⟩ : ByteArray) = bs [32] := rfl
  have b4' : (⟨#[44, 32]⟩ : ByteArray) = bs [44, 32] := rfl
  have b5' : (⟨#[76, 68]⟩ : ByteArray) = bs [76, 68] := rfl
  have b6' : (⟨#[83, 84]⟩ : ByteArray) = bs [83, 84] := rfl
  have b7' : (⟨#[66]⟩ : ByteArray) = bs [66] := rfl
  have b8' : (⟨#[82]⟩ : ByteArray) = bs [82] := rfl
  have m1 : ∀ W : World, (Op.stringOp .add (bs []) (bs [39])).run Tryz.prog W = .ok (.string (bs [39])) W := add_at [] [39] (by decide)
  have m2 : ∀ W : World, (Op.stringOp .add (bs []) (bs [34])).run Tryz.prog W = .ok (.string (bs [34])) W := add_at [] [34] (by decide)
  have m3 : ∀ W : World, (Op.stringOp .add (bs [39]) (bs [34])).run Tryz.prog W = .ok (.string (bs [39, 34])) W := add_at [39] [34] (by decide)
  have m4 : ∀ W : World, (Op.stringOp .add (bs [76, 68]) (bs [66])).run Tryz.prog W = .ok (.string (bs [76, 68, 66])) W := add_at [76, 68] [66] (by decide)
  have m5 : ∀ W : World, (Op.stringOp .add (bs [76, 68]) (bs [82])).run Tryz.prog W = .ok (.string (bs [76, 68, 82])) W := add_at [76, 68] [82] (by decide)
  have m6 : ∀ W : World, (Op.stringOp .add (bs [83, 84]) (bs [66])).run Tryz.prog W = .ok (.string (bs [83, 84, 66])) W := add_at [83, 84] [66] (by decide)
  have m7 : ∀ W : World, (Op.stringOp .add (bs [83, 84]) (bs [82])).run Tryz.prog W = .ok (.string (bs [83, 84, 82])) W := add_at [83, 84] [82] (by decide)
  obtain ⟨M, hM⟩ : ∃ M, M = memN u v := ⟨_, rfl⟩
  have hMl : M.length ≤ 3 := by rw [hM]; cases u <;> cases v <;> decide
  have hra := decI_le a
  have hrb := decI_le b
  have hrc := decI_le im
  obtain ⟨A, hA⟩ : ∃ A, A = regI a := ⟨_, rfl⟩
  obtain ⟨B, hB⟩ : ∃ B, B = regI b := ⟨_, rfl⟩
  obtain ⟨C, hC⟩ : ∃ C, C = decI im := ⟨_, rfl⟩
  have lA : A.length ≤ 14 := by rw [hA]; simp [regI]; omega
  have lB : B.length ≤ 14 := by rw [hB]; simp [regI]; omega
  have lC : C.length ≤ 14 := by rw [hC]; omega
  obtain ⟨L2, e2, a2⟩ := add_rule M [32] (by simp; omega)
  obtain ⟨L3, e3, a3⟩ := add_rule L2 A (by rw [e2]; simp; omega)
  obtain ⟨L4, e4, a4⟩ := add_rule L3 [44, 32] (by rw [e3, e2]; simp; omega)
  obtain ⟨L5, e5, a5⟩ := add_rule L4 B (by rw [e4, e3, e2]; simp; omega)
  obtain ⟨L6, e6, a6⟩ := add_rule L5 [44, 32] (by rw [e5, e4, e3, e2]; simp; omega)
  obtain ⟨L7, e7, a7⟩ := add_rule L6 C (by rw [e6, e5, e4, e3, e2]; simp; omega)
  have HE : Hid (lineI 2 u v a b c op im = L7) := hide (by rw [e7, e6, e5, e4, e3, e2, hC, hB, hA, hM]; rfl)
  have RA := hide (reg_any a (by omega) (by omega))
  have RB := hide (reg_any b (by omega) (by omega))
  have RC := hide (dec_any im (by omega) (by omega))
  rw [← hA] at RA
  rw [← hB] at RB
  rw [← hC] at RC
  clear e2 e3 e4 e5 e6 e7 hra hrb hrc lA lB lC hMl hA hB hC HB HD a0 a1 b0 b1 i0 i1
  cases u <;> cases v
  all_goals
    simp only [memN, if_true, Bool.false_eq_true, if_false, List.append_nil, List.nil_append, List.cons_append] at hM
    subst hM
    go_upto_region 21 with fail
    refine wp_region_held_drew (S := fun W => (W.cell? ⟨X, 3, none⟩ = some (.int .i64 a) ∧ W.cell? ⟨X, 4, none⟩ = some (.int .i64 b) ∧ W.cell? ⟨X, 7, none⟩ = some (.int .i64 im))) (by kernel_rfl) ⟨c3, c4, c7⟩ (fun hHeld => ?_)
    (refine wpAnyH_take (i := 0) (v := ?_) rfl (by kernel_rfl) (by kernel_rfl) (by kernel_rfl) (fun _ _ _ h => h) (Or.inl ⟨by rfl, ?_⟩) (by assumption) ?_; rotate_left 1; (focus (intro w hSw; (try dsimp only at hSw); go_simp; (try (with_reducible rfl)))); (try simp only [Act.put, List.getElem_toArray, List.getElem_cons_zero, List.getElem_cons_succ, List.setIfInBounds_toArray, List.set_cons_zero, List.set_cons_succ]))
    (refine wpAnyH_take (i := 1) (v := ?_) rfl (by kernel_rfl) (by kernel_rfl) (by kernel_rfl) (fun _ _ _ h => h) (Or.inl ⟨by rfl, ?_⟩) (by assumption) ?_; rotate_left 1; (focus (intro w hSw; (try dsimp only at hSw); go_simp; (try (with_reducible rfl)))); (try simp only [Act.put, List.getElem_toArray, List.getElem_cons_zero, List.getElem_cons_succ, List.setIfInBounds_toArray, List.set_cons_zero, List.set_cons_succ]))
    (refine wpAnyH_take (i := 2) (v := ?_) rfl (by kernel_rfl) (by kernel_rfl) (by kernel_rfl) (fun _ _ _ h => h) (Or.inl ⟨by rfl, ?_⟩) (by assumption) ?_; rotate_left 1; (focus (intro w hSw; (try dsimp only at hSw); go_simp; (try (with_reducible rfl)))); (try simp only [Act.put, List.getElem_toArray, List.getElem_cons_zero, List.getElem_cons_succ, List.setIfInBounds_toArray, List.set_cons_zero, List.set_cons_succ]))
    (refine wpAnyH_take (i := 3) (v := ?_) rfl (by kernel_rfl) (by kernel_rfl) (by kernel_rfl) (fun _ _ _ h => h) (Or.inl ⟨by rfl, ?_⟩) (by assumption) ?_; rotate_left 1; (focus (intro w hSw; (try dsimp only at hSw); go_simp; (try (with_reducible rfl)))); (try simp only [Act.put, List.getElem_toArray, List.getElem_cons_zero, List.getElem_cons_succ, List.setIfInBounds_toArray, List.set_cons_zero, List.set_cons_succ]))
    (refine wpAnyH_take (i := 7) (v := ?_) rfl (by kernel_rfl) (by kernel_rfl) (by kernel_rfl) (fun _ _ _ h => h) (Or.inl ⟨by rfl, ?_⟩) (by assumption) ?_; rotate_left 1; (focus (intro w hSw; (try dsimp only at hSw); go_simp; (try (with_reducible rfl)))); (try simp only [Act.put, List.getElem_toArray, List.getElem_cons_zero, List.getElem_cons_succ, List.setIfInBounds_toArray, List.set_cons_zero, List.set_cons_succ]))
    (refine wpAnyH_take (i := 8) (v := ?_) rfl (by kernel_rfl) (by kernel_rfl) (by kernel_rfl) (fun _ _ _ h => h) (Or.inl ⟨by rfl, ?_⟩) (by assumption) ?_; rotate_left 1; (focus (intro w hSw; (try dsimp only at hSw); go_simp; (try (with_reducible rfl)))); (try simp only [Act.put, List.getElem_toArray, List.getElem_cons_zero, List.getElem_cons_succ, List.setIfInBounds_toArray, List.set_cons_zero, List.set_cons_succ]))
    (refine wpAnyH_take (i := 12) (v := ?_) rfl (by kernel_rfl) (by kernel_rfl) (by kernel_rfl) (fun _ _ _ h => h) (Or.inl ⟨by rfl, ?_⟩) (by assumption) ?_; rotate_left 1; (focus (intro w hSw; (try dsimp only at hSw); go_simp; (try (with_reducible rfl)))); (try simp only [Act.put, List.getElem_toArray, List.getElem_cons_zero, List.getElem_cons_succ, List.setIfInBounds_toArray, List.set_cons_zero, List.set_cons_succ]))
    (refine wpAnyH_take (i := 13) (v := ?_) rfl (by kernel_rfl) (by kernel_rfl) (by kernel_rfl) (fun _ _ _ h => h) (Or.inl ⟨by rfl, ?_⟩) (by assumption) ?_; rotate_left 1; (focus (intro w hSw; (try dsimp only at hSw); go_simp; (try (with_reducible rfl)))); (try simp only [Act.put, List.getElem_toArray, List.getElem_cons_zero, List.getElem_cons_succ, List.setIfInBounds_toArray, List.set_cons_zero, List.set_cons_succ]))
    (refine ready_turn (i := 4) rfl (by kernel_rfl) (fun K hK => ?_); go_simp; refine (RA.out _).mono ?_; rintro e w2 ⟨rfl, hg⟩; refine hK.out _ _ (fun W => (W.cell? ⟨X, 3, none⟩ = some (.int .i64 a) ∧ W.cell? ⟨X, 4, none⟩ = some (.int .i64 b) ∧ W.cell? ⟨X, 7, none⟩ = some (.int .i64 im))) (fun _ h => h) ⟨hg.cell hHeld.1 (by simp), hg.cell hHeld.2.1 (by simp), hg.cell hHeld.2.2 (by simp)⟩ (fun hHeld => ?_); have H2 := hide hg; clear hg; (clear hK K; try simp only [Act.put, List.getElem_toArray, List.getElem_cons_zero, List.getElem_cons_succ, List.setIfInBounds_toArray, List.set_cons_zero, List.set_cons_succ]))
    (refine wpAnyH_take (i := 5) (v := ?_) rfl (by kernel_rfl) (by kernel_rfl) (by kernel_rfl) (fun _ _ _ h => h) (Or.inl ⟨by rfl, ?_⟩) (by assumption) ?_; rotate_left 1; (focus (intro w hSw; (try dsimp only at hSw); go_simp; (try (with_reducible rfl)))); (try simp only [Act.put, List.getElem_toArray, List.getElem_cons_zero, List.getElem_cons_succ, List.setIfInBounds_toArray, List.set_cons_zero, List.set_cons_succ]))
    (refine wpAnyH_take (i := 6) (v := ?_) rfl (by kernel_rfl) (by kernel_rfl) (by kernel_rfl) (fun _ _ _ h => h) (Or.inl ⟨by rfl, ?_⟩) (by assumption) ?_; rotate_left 1; (focus (intro w hSw; (try dsimp only at hSw); go_simp; (try (with_reducible rfl)))); (try simp only [Act.put, List.getElem_toArray, List.getElem_cons_zero, List.getElem_cons_succ, List.setIfInBounds_toArray, List.set_cons_zero, List.set_cons_succ]))
    (refine ready_turn (i := 9) rfl (by kernel_rfl) (fun K hK => ?_); go_simp; refine (RB.out _).mono ?_; rintro e w3 ⟨rfl, hg⟩; refine hK.out _ _ (fun W => (W.cell? ⟨X, 3, none⟩ = some (.int .i64 a) ∧ W.cell? ⟨X, 4, none⟩ = some (.int .i64 b) ∧ W.cell? ⟨X, 7, none⟩ = some (.int .i64 im))) (fun _ h => h) ⟨hg.cell hHeld.1 (by simp), hg.cell hHeld.2.1 (by simp), hg.cell hHeld.2.2 (by simp)⟩ (fun hHeld => ?_); have H3 := hide hg; clear hg; (clear hK K; try simp only [Act.put, List.getElem_toArray, List.getElem_cons_zero, List.getElem_cons_succ, List.setIfInBounds_toArray, List.set_cons_zero, List.set_cons_succ]))
    (refine wpAnyH_take (i := 10) (v := ?_) rfl (by kernel_rfl) (by kernel_rfl) (by kernel_rfl) (fun _ _ _ h => h) (Or.inl ⟨by rfl, ?_⟩) (by assumption) ?_; rotate_left 1; (focus (intro w hSw; (try dsimp only at hSw); go_simp; (try (with_reducible rfl)))); (try simp only [Act.put, List.getElem_toArray, List.getElem_cons_zero, List.getElem_cons_succ, List.setIfInBounds_toArray, List.set_cons_zero, List.set_cons_succ]))
    (refine wpAnyH_take (i := 11) (v := ?_) rfl (by kernel_rfl) (by kernel_rfl) (by kernel_rfl) (fun _ _ _ h => h) (Or.inl ⟨by rfl, ?_⟩) (by assumption) ?_; rotate_left 1; (focus (intro w hSw; (try dsimp only at hSw); go_simp; (try (with_reducible rfl)))); (try simp only [Act.put, List.getElem_toArray, List.getElem_cons_zero, List.getElem_cons_succ, List.setIfInBounds_toArray, List.set_cons_zero, List.set_cons_succ]))
    (refine ready_turn (i := 14) rfl (by kernel_rfl) (fun K hK => ?_); go_simp; refine (RC.out _).mono ?_; rintro e w4 ⟨rfl, hg⟩; refine hK.out _ _ (fun W => (W.cell? ⟨X, 3, none⟩ = some (.int .i64 a) ∧ W.cell? ⟨X, 4, none⟩ = some (.int .i64 b) ∧ W.cell? ⟨X, 7, none⟩ = some (.int .i64 im))) (fun _ h => h) ⟨hg.cell hHeld.1 (by simp), hg.cell hHeld.2.1 (by simp), hg.cell hHeld.2.2 (by simp)⟩ (fun hHeld => ?_); have H4 := hide hg; clear hg; (clear hK K; try simp only [Act.put, List.getElem_toArray, List.getElem_cons_zero, List.getElem_cons_succ, List.setIfInBounds_toArray, List.set_cons_zero, List.set_cons_succ]))
    (refine wpAnyH_take (i := 15) (v := ?_) rfl (by kernel_rfl) (by kernel_rfl) (by kernel_rfl) (fun _ _ _ h => h) (Or.inl ⟨by rfl, ?_⟩) (by assumption) ?_; rotate_left 1; (focus (intro w hSw; (try dsimp only at hSw); go_simp; (try (with_reducible rfl)))); (try simp only [Act.put, List.getElem_toArray, List.getElem_cons_zero, List.getElem_cons_succ, List.setIfInBounds_toArray, List.set_cons_zero, List.set_cons_succ]))
    (refine wpAnyH_take (i := 16) (v := ?_) rfl (by kernel_rfl) (by kernel_rfl) (by kernel_rfl) (fun _ _ _ h => h) (Or.inl ⟨by rfl, ?_⟩) (by assumption) ?_; rotate_left 1; (focus (intro w hSw; (try dsimp only at hSw); go_simp; (try (with_reducible rfl)))); (try simp only [Act.put, List.getElem_toArray, List.getElem_cons_zero, List.getElem_cons_succ, List.setIfInBounds_toArray, List.set_cons_zero, List.set_cons_succ]))
    (refine wpAnyH_take (i := 17) (v := ?_) rfl (by kernel_rfl) (by kernel_rfl) (by kernel_rfl) (fun _ _ _ h => h) (Or.inl ⟨by rfl, ?_⟩) (by assumption) ?_; rotate_left 1; (focus (intro w hSw; (try dsimp only at hSw); go_simp; (try (with_reducible rfl)))); (try simp only [Act.put, List.getElem_toArray, List.getElem_cons_zero, List.getElem_cons_succ, List.setIfInBounds_toArray, List.set_cons_zero, List.set_cons_succ]))
    refine wpAnyH_done (by kernel_rfl) ?_ _
    go_wp2
    go_ret2
    exact ⟨by rw [HE.out]; rfl, grown_trans HG.out (grown_trans (drew_g _) (grown_trans H2.out (grown_trans H3.out H4.out)))⟩
end Go.Proofs.YtjeogojgabfbiaaGreatDoor.Asm
