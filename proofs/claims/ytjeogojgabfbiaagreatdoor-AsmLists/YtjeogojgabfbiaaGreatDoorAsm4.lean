/-
  What the document's own Line does with a word of the form 1.
-/
import Derived.Test.YtjeogojgabfbiaaGreatDoorAsm3
namespace Go.Proofs.YtjeogojgabfbiaaGreatDoor.Asm
open Go.RowKit Go.Proofs.YtjeogojgabfbiaaGreatDoor.Bits Go.Proofs.YtjeogojgabfbiaaGreatDoor.Gw Go.Proofs.YtjeogojgabfbiaaGreatDoor.Risc Go.Proofs.YtjeogojgabfbiaaGreatDoor.Tx
set_option linter.unusedVariables false
set_option linter.unusedSimpArgs false
set_option maxRecDepth 100000

set_option maxHeartbeats 4000000 in
theorem line_1 (x : Int) (x0 : 0 ≤ x) (x1 : x < 4294967296) (u v : Bool) (ka kb kc ko : Nat) (im : Int) (h12 : ko < 12) (a16 : ka < 16) (b16 : kb < 16) (i0 : 0 ≤ im) (i1 : im ≤ 65535)
    (hdec : ∀ w : World, Calls Tryz.prog 19 #[.int .u32 x] w fun e w' => e = .returned (.tuple #[ins 1 u v ka kb kc ko im, .int .i64 0]) ∧ ∃ p : By, w' = gr w p) (w : World) :
    Calls Tryz.prog 8 #[.int .u32 x] w fun e w' => e = .returned (.tuple #[.string (bs (lineI 1 u v ka kb kc ko im)), .int .i64 0]) ∧ w.grownBy w' none := by
  have HD := hide hdec
  clear hdec
  go_enter Tryz.func8, Tryz.ntmps8
  go_upto_region 2 with (go_at_call 19; refine (HD.out _).mono ?_; rintro e V0 ⟨rfl, hg⟩; have HG0 := hide (g_grown hg); clear hg)
  have HB : Hid ((V0.alloc (Obj.cells #[Value.int IntKind.i64 1, Value.bool u, Value.bool v, Value.int IntKind.i64 ↑ka, Value.int IntKind.i64 ↑kb, Value.int IntKind.i64 ↑kc, Value.int IntKind.i64 ↑ko, Value.int IntKind.i64 im] 47)).heap[V0.heap.size]? = some (Obj.cells #[Value.int IntKind.i64 1, Value.bool u, Value.bool v, Value.int IntKind.i64 ↑ka, Value.int IntKind.i64 ↑kb, Value.int IntKind.i64 ↑kc, Value.int IntKind.i64 ↑ko, Value.int IntKind.i64 im] 47)) := hide (heap_alloc_new V0 _)
  have HG := hide (grown_trans HG0.out (World.grownBy_alloc V0 (Obj.cells #[Value.int IntKind.i64 1, Value.bool u, Value.bool v, Value.int IntKind.i64 ↑ka, Value.int IntKind.i64 ↑kb, Value.int IntKind.i64 ↑kc, Value.int IntKind.i64 ↑ko, Value.int IntKind.i64 im] 47) none))
  generalize V0.alloc (Obj.cells #[Value.int IntKind.i64 1, Value.bool u, Value.bool v, Value.int IntKind.i64 ↑ka, Value.int IntKind.i64 ↑kb, Value.int IntKind.i64 ↑kc, Value.int IntKind.i64 ↑ko, Value.int IntKind.i64 im] 47) = V at HB HG ⊢
  generalize V0.heap.size = X at HB ⊢
  have c0 : V.cell? ⟨X, 0, none⟩ = some (.int .i64 1) := by rw [cell_of_row _ _ _ _ _ _ HB.out]; rfl
  have c1 : V.cell? ⟨X, 1, none⟩ = some (.bool u) := by rw [cell_of_row _ _ _ _ _ _ HB.out]; rfl
  have c2 : V.cell? ⟨X, 2, none⟩ = some (.bool v) := by rw [cell_of_row _ _ _ _ _ _ HB.out]; rfl
  have c3 : V.cell? ⟨X, 3, none⟩ = some (.int .i64 ka) := by rw [cell_of_row _ _ _ _ _ _ HB.out]; rfl
  have c4 : V.cell? ⟨X, 4, none⟩ = some (.int .i64 kb) := by rw [cell_of_row _ _ _ _ _ _ HB.out]; rfl
  have c5 : V.cell? ⟨X, 7, none⟩ = some (.int .i64 im) := by rw [cell_of_row _ _ _ _ _ _ HB.out]; rfl
  have c6 : V.cell? ⟨X, 6, none⟩ = some (.int .i64 ko) := by rw [cell_of_row _ _ _ _ _ _ HB.out]; rfl
  have b0 : (⟨#[]⟩ : ByteArray) = bs [] := rfl
  have b1 : (⟨#[39]⟩ : ByteArray) = bs [39] := rfl
  have b2 : (⟨#[34]⟩ : ByteArray) = bs [34] := rfl
  have b3 : (⟨#[32]⟩ : ByteArray) = bs [32] := rfl
  have b4 : (⟨#[44, 32]⟩ : ByteArray) = bs [44, 32] := rfl
  have m1 : ∀ W : World, (Op.stringOp .add (bs []) (bs [39])).run Tryz.prog W = .ok (.string (bs [39])) W := add_at [] [39] (by decide)
  have m2 : ∀ W : World, (Op.stringOp .add (bs []) (bs [34])).run Tryz.prog W = .ok (.string (bs [34])) W := add_at [] [34] (by decide)
  have m3 : ∀ W : World, (Op.stringOp .add (bs [39]) (bs [34])).run Tryz.prog W = .ok (.string (bs [39, 34])) W := add_at [39] [34] (by decide)
  obtain ⟨M, hM⟩ : ∃ M, M = mkU u ++ mkV v := ⟨_, rfl⟩
  have hMl : M.length ≤ 2 := by rw [hM]; cases u <;> cases v <;> decide
  have hN := opNs_len ko
  have hra := decI_le ka
  have hrb := decI_le kb
  have hrc := decI_le im
  obtain ⟨N, hN'⟩ : ∃ N, N = nm opNs ko := ⟨_, rfl⟩
  obtain ⟨A, hA⟩ : ∃ A, A = regI ka := ⟨_, rfl⟩
  obtain ⟨B, hB⟩ : ∃ B, B = regI kb := ⟨_, rfl⟩
  obtain ⟨C, hC⟩ : ∃ C, C = decI im := ⟨_, rfl⟩
  have lA : A.length ≤ 14 := by rw [hA]; simp [regI]; omega
  have lB : B.length ≤ 14 := by rw [hB]; simp [regI]; omega
  have lC : C.length ≤ 14 := by rw [hC]; omega
  have lN : N.length ≤ 3 := by rw [hN']; exact hN
  obtain ⟨L1, e1, a1⟩ := add_rule N M (by omega)
  obtain ⟨L2, e2, a2⟩ := add_rule L1 [32] (by rw [e1]; simp; omega)
  obtain ⟨L3, e3, a3⟩ := add_rule L2 A (by rw [e2, e1]; simp; omega)
  obtain ⟨L4, e4, a4⟩ := add_rule L3 [44, 32] (by rw [e3, e2, e1]; simp; omega)
  obtain ⟨L5, e5, a5⟩ := add_rule L4 B (by rw [e4, e3, e2, e1]; simp; omega)
  obtain ⟨L6, e6, a6⟩ := add_rule L5 [44, 32] (by rw [e5, e4, e3, e2, e1]; simp; omega)
  obtain ⟨L7, e7, a7⟩ := add_rule L6 C (by rw [e6, e5, e4, e3, e2, e1]; simp; omega)
  have HE : Hid (lineI 1 u v ka kb kc ko im = L7) := hide (by rw [e7, e6, e5, e4, e3, e2, e1, hC, hB, hA, hN', hM]; rfl)
  have RA := hide (reg_any ka (by omega) (by omega))
  have RB := hide (reg_any kb (by omega) (by omega))
  have RC := hide (dec_any im (by omega) (by omega))
  have HN : Hid (nm opNs ko = N) := hide hN'.symm
  rw [← hA] at RA
  rw [← hB] at RB
  rw [← hC] at RC
  have k0 : (0 : Int) ≤ (ko : Int) := by omega
  have k1 : (ko : Int) < 12 := by omega
  have HK := hide h12
  clear e1 e2 e3 e4 e5 e6 e7 hN hra hrb hrc lA lB lC lN hMl hA hB hC hN' HB h12 a16 b16 i0 i1 HD x0 x1
  have key : ∀ (fr : Act → Prop), True := fun _ => trivial
  cases u <;> cases v
  all_goals
    simp only [mkU, mkV, if_true, Bool.false_eq_true, if_false, List.append_nil, List.nil_append, List.cons_append] at hM
    subst hM
    go_upto_region 13 with fail
    refine wp_region_held_drew (S := fun W => (W.cell? ⟨X, 3, none⟩ = some (.int .i64 ka) ∧ W.cell? ⟨X, 4, none⟩ = some (.int .i64 kb) ∧ W.cell? ⟨X, 7, none⟩ = some (.int .i64 im) ∧ W.cell? ⟨X, 6, none⟩ = some (.int .i64 ko))) (by kernel_rfl) ⟨c3, c4, c5, c6⟩ (fun hHeld => ?_)
    (refine wpAnyH_take (i := 1) (v := ?_) rfl (by kernel_rfl) (by kernel_rfl) (by kernel_rfl) (fun _ _ _ h => h) (Or.inl ⟨by rfl, ?_⟩) (by assumption) ?_; rotate_left 1; (focus (intro w hSw; (try dsimp only at hSw); go_simp; (try (with_reducible rfl)))); (try simp only [Act.put, List.getElem_toArray, List.getElem_cons_zero, List.getElem_cons_succ, List.setIfInBounds_toArray, List.set_cons_zero, List.set_cons_succ]))
    (refine wpAnyH_take (i := 2) (v := ?_) rfl (by kernel_rfl) (by kernel_rfl) (by kernel_rfl) (fun _ _ _ h => h) (Or.inl ⟨by rfl, ?_⟩) (by assumption) ?_; rotate_left 1; (focus (intro w hSw; (try dsimp only at hSw); go_simp; (try (with_reducible rfl)))); (try simp only [Act.put, List.getElem_toArray, List.getElem_cons_zero, List.getElem_cons_succ, List.setIfInBounds_toArray, List.set_cons_zero, List.set_cons_succ]))
    (refine wpAnyH_take (i := 5) (v := ?_) rfl (by kernel_rfl) (by kernel_rfl) (by kernel_rfl) (fun _ _ _ h => h) (Or.inl ⟨by rfl, ?_⟩) (by assumption) ?_; rotate_left 1; (focus (intro w hSw; (try dsimp only at hSw); go_simp; (try (with_reducible rfl)))); (try simp only [Act.put, List.getElem_toArray, List.getElem_cons_zero, List.getElem_cons_succ, List.setIfInBounds_toArray, List.set_cons_zero, List.set_cons_succ]))
    (refine wpAnyH_take (i := 8) (v := ?_) rfl (by kernel_rfl) (by kernel_rfl) (by kernel_rfl) (fun _ _ _ h => h) (Or.inl ⟨by rfl, ?_⟩) (by assumption) ?_; rotate_left 1; (focus (intro w hSw; (try dsimp only at hSw); go_simp; (try (with_reducible rfl)))); (try simp only [Act.put, List.getElem_toArray, List.getElem_cons_zero, List.getElem_cons_succ, List.setIfInBounds_toArray, List.set_cons_zero, List.set_cons_succ]))
    (refine wpAnyH_take (i := 9) (v := ?_) rfl (by kernel_rfl) (by kernel_rfl) (by kernel_rfl) (fun _ _ _ h => h) (Or.inl ⟨by rfl, ?_⟩) (by assumption) ?_; rotate_left 1; (focus (intro w hSw; (try dsimp only at hSw); go_simp; (try (with_reducible rfl)))); (try simp only [Act.put, List.getElem_toArray, List.getElem_cons_zero, List.getElem_cons_succ, List.setIfInBounds_toArray, List.set_cons_zero, List.set_cons_succ]))
    (refine wpAnyH_take (i := 13) (v := ?_) rfl (by kernel_rfl) (by kernel_rfl) (by kernel_rfl) (fun _ _ _ h => h) (Or.inl ⟨by rfl, ?_⟩) (by assumption) ?_; rotate_left 1; (focus (intro w hSw; (try dsimp only at hSw); go_simp; (try (with_reducible rfl)))); (try simp only [Act.put, List.getElem_toArray, List.getElem_cons_zero, List.getElem_cons_succ, List.setIfInBounds_toArray, List.set_cons_zero, List.set_cons_succ]))
    (refine wpAnyH_take (i := 14) (v := ?_) rfl (by kernel_rfl) (by kernel_rfl) (by kernel_rfl) (fun _ _ _ h => h) (Or.inl ⟨by rfl, ?_⟩) (by assumption) ?_; rotate_left 1; (focus (intro w hSw; (try dsimp only at hSw); go_simp; (try (with_reducible rfl)))); (try simp only [Act.put, List.getElem_toArray, List.getElem_cons_zero, List.getElem_cons_succ, List.setIfInBounds_toArray, List.set_cons_zero, List.set_cons_succ]))
    (refine wpAnyH_take (i := 18) (v := ?_) rfl (by kernel_rfl) (by kernel_rfl) (by kernel_rfl) (fun _ _ _ h => h) (Or.inl ⟨by rfl, ?_⟩) (by assumption) ?_; rotate_left 1; (focus (intro w hSw; (try dsimp only at hSw); go_simp; (try (with_reducible rfl)))); (try simp only [Act.put, List.getElem_toArray, List.getElem_cons_zero, List.getElem_cons_succ, List.setIfInBounds_toArray, List.set_cons_zero, List.set_cons_succ]))
    (refine wpAnyH_take (i := 19) (v := ?_) rfl (by kernel_rfl) (by kernel_rfl) (by kernel_rfl) (fun _ _ _ h => h) (Or.inl ⟨by rfl, ?_⟩) (by assumption) ?_; rotate_left 1; (focus (intro w hSw; (try dsimp only at hSw); go_simp; (try (with_reducible rfl)))); (try simp only [Act.put, List.getElem_toArray, List.getElem_cons_zero, List.getElem_cons_succ, List.setIfInBounds_toArray, List.set_cons_zero, List.set_cons_succ]))
    refine ready_turn (i := 0) rfl (by kernel_rfl) (fun K hK => ?_)
    go_simp
    refine (ops_any _).mono ?_
    rintro e w1 ⟨bb, rfl, hg, hb, hn⟩
    refine hK.out _ _ (fun W : World => (W.cell? ⟨X, 3, none⟩ = some (.int .i64 ka) ∧ W.cell? ⟨X, 4, none⟩ = some (.int .i64 kb) ∧ W.cell? ⟨X, 7, none⟩ = some (.int .i64 im) ∧ W.cell? ⟨X, 6, none⟩ = some (.int .i64 ko)) ∧ W.cell? ⟨bb, ko, none⟩ = some (.string (bs N))) (fun _ h => h.1) ⟨⟨hg.cell c3 (by simp), hg.cell c4 (by simp), hg.cell c5 (by simp), hg.cell c6 (by simp)⟩, by rw [hn ko HK.out, HN.out]⟩ (fun hHeld => ?_)
    have H1 := hide hg
    clear hg hb hn
    (clear hK K; try simp only [Act.put, List.getElem_toArray, List.getElem_cons_zero, List.getElem_cons_succ, List.setIfInBounds_toArray, List.set_cons_zero, List.set_cons_succ])
    (refine wpAnyH_take (i := 3) (v := ?_) rfl (by kernel_rfl) (by kernel_rfl) (by kernel_rfl) (fun _ _ _ h => h) (Or.inl ⟨by rfl, ?_⟩) (by assumption) ?_; rotate_left 1; (focus (intro w hSw; (try dsimp only at hSw); go_simp; (try (with_reducible rfl)))); (try simp only [Act.put, List.getElem_toArray, List.getElem_cons_zero, List.getElem_cons_succ, List.setIfInBounds_toArray, List.set_cons_zero, List.set_cons_succ]))
    (refine wpAnyH_take (i := 4) (v := ?_) rfl (by kernel_rfl) (by kernel_rfl) (by kernel_rfl) (fun _ _ _ h => h) (Or.inl ⟨by rfl, ?_⟩) (by assumption) ?_; rotate_left 1; (focus (intro w hSw; (try dsimp only at hSw); go_simp; (try (with_reducible rfl)))); (try simp only [Act.put, List.getElem_toArray, List.getElem_cons_zero, List.getElem_cons_succ, List.setIfInBounds_toArray, List.set_cons_zero, List.set_cons_succ]))
    (refine wpAnyH_take (i := 6) (v := ?_) rfl (by kernel_rfl) (by kernel_rfl) (by kernel_rfl) (fun _ _ _ h => h) (Or.inl ⟨by rfl, ?_⟩) (by assumption) ?_; rotate_left 1; (focus (intro w hSw; (try dsimp only at hSw); go_simp; (try (with_reducible rfl)))); (try simp only [Act.put, List.getElem_toArray, List.getElem_cons_zero, List.getElem_cons_succ, List.setIfInBounds_toArray, List.set_cons_zero, List.set_cons_succ]))
    (refine wpAnyH_take (i := 7) (v := ?_) rfl (by kernel_rfl) (by kernel_rfl) (by kernel_rfl) (fun _ _ _ h => h) (Or.inl ⟨by rfl, ?_⟩) (by assumption) ?_; rotate_left 1; (focus (intro w hSw; (try dsimp only at hSw); go_simp; (try (with_reducible rfl)))); (try simp only [Act.put, List.getElem_toArray, List.getElem_cons_zero, List.getElem_cons_succ, List.setIfInBounds_toArray, List.set_cons_zero, List.set_cons_succ]))
    (refine ready_turn (i := 10) rfl (by kernel_rfl) (fun K hK => ?_); go_simp; refine (RA.out _).mono ?_; rintro e w2 ⟨rfl, hg⟩; refine hK.out _ _ (fun W : World => (W.cell? ⟨X, 3, none⟩ = some (.int .i64 ka) ∧ W.cell? ⟨X, 4, none⟩ = some (.int .i64 kb) ∧ W.cell? ⟨X, 7, none⟩ = some (.int .i64 im) ∧ W.cell? ⟨X, 6, none⟩ = some (.int .i64 ko)) ∧ W.cell? ⟨bb, ko, none⟩ = some (.string (bs N))) (fun _ h => h) ⟨⟨hg.cell hHeld.1.1 (by simp), hg.cell hHeld.1.2.1 (by simp), hg.cell hHeld.1.2.2.1 (by simp), hg.cell hHeld.1.2.2.2 (by simp)⟩, hg.cell hHeld.2 (by simp)⟩ (fun hHeld => ?_); have H2 := hide hg; clear hg; (clear hK K; try simp only [Act.put, List.getElem_toArray, List.getElem_cons_zero, List.getElem_cons_succ, List.setIfInBounds_toArray, List.set_cons_zero, List.set_cons_succ]))
    (refine wpAnyH_take (i := 11) (v := ?_) rfl (by kernel_rfl) (by kernel_rfl) (by kernel_rfl) (fun _ _ _ h => h) (Or.inl ⟨by rfl, ?_⟩) (by assumption) ?_; rotate_left 1; (focus (intro w hSw; (try dsimp only at hSw); go_simp; (try (with_reducible rfl)))); (try simp only [Act.put, List.getElem_toArray, List.getElem_cons_zero, List.getElem_cons_succ, List.setIfInBounds_toArray, List.set_cons_zero, List.set_cons_succ]))
    (refine wpAnyH_take (i := 12) (v := ?_) rfl (by kernel_rfl) (by kernel_rfl) (by kernel_rfl) (fun _ _ _ h => h) (Or.inl ⟨by rfl, ?_⟩) (by assumption) ?_; rotate_left 1; (focus (intro w hSw; (try dsimp only at hSw); go_simp; (try (with_reducible rfl)))); (try simp only [Act.put, List.getElem_toArray, List.getElem_cons_zero, List.getElem_cons_succ, List.setIfInBounds_toArray, List.set_cons_zero, List.set_cons_succ]))
    (refine ready_turn (i := 15) rfl (by kernel_rfl) (fun K hK => ?_); go_simp; refine (RB.out _).mono ?_; rintro e w3 ⟨rfl, hg⟩; refine hK.out _ _ (fun W : World => (W.cell? ⟨X, 3, none⟩ = some (.int .i64 ka) ∧ W.cell? ⟨X, 4, none⟩ = some (.int .i64 kb) ∧ W.cell? ⟨X, 7, none⟩ = some (.int .i64 im) ∧ W.cell? ⟨X, 6, none⟩ = some (.int .i64 ko)) ∧ W.cell? ⟨bb, ko, none⟩ = some (.string (bs N))) (fun _ h => h) ⟨⟨hg.cell hHeld.1.1 (by simp), hg.cell hHeld.1.2.1 (by simp), hg.cell hHeld.1.2.2.1 (by simp), hg.cell hHeld.1.2.2.2 (by simp)⟩, hg.cell hHeld.2 (by simp)⟩ (fun hHeld => ?_); have H3 := hide hg; clear hg; (clear hK K; try simp only [Act.put, List.getElem_toArray, List.getElem_cons_zero, List.getElem_cons_succ, List.setIfInBounds_toArray, List.set_cons_zero, List.set_cons_succ]))
    (refine wpAnyH_take (i := 16) (v := ?_) rfl (by kernel_rfl) (by kernel_rfl) (by kernel_rfl) (fun _ _ _ h => h) (Or.inl ⟨by rfl, ?_⟩) (by assumption) ?_; rotate_left 1; (focus (intro w hSw; (try dsimp only at hSw); go_simp; (try (with_reducible rfl)))); (try simp only [Act.put, List.getElem_toArray, List.getElem_cons_zero, List.getElem_cons_succ, List.setIfInBounds_toArray, List.set_cons_zero, List.set_cons_succ]))
    (refine wpAnyH_take (i := 17) (v := ?_) rfl (by kernel_rfl) (by kernel_rfl) (by kernel_rfl) (fun _ _ _ h => h) (Or.inl ⟨by rfl, ?_⟩) (by assumption) ?_; rotate_left 1; (focus (intro w hSw; (try dsimp only at hSw); go_simp; (try (with_reducible rfl)))); (try simp only [Act.put, List.getElem_toArray, List.getElem_cons_zero, List.getElem_cons_succ, List.setIfInBounds_toArray, List.set_cons_zero, List.set_cons_succ]))
    (refine ready_turn (i := 20) rfl (by kernel_rfl) (fun K hK => ?_); go_simp; refine (RC.out _).mono ?_; rintro e w4 ⟨rfl, hg⟩; refine hK.out _ _ (fun W : World => (W.cell? ⟨X, 3, none⟩ = some (.int .i64 ka) ∧ W.cell? ⟨X, 4, none⟩ = some (.int .i64 kb) ∧ W.cell? ⟨X, 7, none⟩ = some (.int .i64 im) ∧ W.cell? ⟨X, 6, none⟩ = some (.int .i64 ko)) ∧ W.cell? ⟨bb, ko, none⟩ = some (.string (bs N))) (fun _ h => h) ⟨⟨hg.cell hHeld.1.1 (by simp), hg.cell hHeld.1.2.1 (by simp), hg.cell hHeld.1.2.2.1 (by simp), hg.cell hHeld.1.2.2.2 (by simp)⟩, hg.cell hHeld.2 (by simp)⟩ (fun hHeld => ?_); have H4 := hide hg; clear hg; (clear hK K; try simp only [Act.put, List.getElem_toArray, List.getElem_cons_zero, List.getElem_cons_succ, List.setIfInBounds_toArray, List.set_cons_zero, List.set_cons_succ]))
    (refine wpAnyH_take (i := 21) (v := ?_) rfl (by kernel_rfl) (by kernel_rfl) (by kernel_rfl) (fun _ _ _ h => h) (Or.inl ⟨by rfl, ?_⟩) (by assumption) ?_; rotate_left 1; (focus (intro w hSw; (try dsimp only at hSw); go_simp; (try (with_reducible rfl)))); (try simp only [Act.put, List.getElem_toArray, List.getElem_cons_zero, List.getElem_cons_succ, List.setIfInBounds_toArray, List.set_cons_zero, List.set_cons_succ]))
    (refine wpAnyH_take (i := 22) (v := ?_) rfl (by kernel_rfl) (by kernel_rfl) (by kernel_rfl) (fun _ _ _ h => h) (Or.inl ⟨by rfl, ?_⟩) (by assumption) ?_; rotate_left 1; (focus (intro w hSw; (try dsimp only at hSw); go_simp; (try (with_reducible rfl)))); (try simp only [Act.put, List.getElem_toArray, List.getElem_cons_zero, List.getElem_cons_succ, List.setIfInBounds_toArray, List.set_cons_zero, List.set_cons_succ]))
    (refine wpAnyH_take (i := 23) (v := ?_) rfl (by kernel_rfl) (by kernel_rfl) (by kernel_rfl) (fun _ _ _ h => h) (Or.inl ⟨by rfl, ?_⟩) (by assumption) ?_; rotate_left 1; (focus (intro w hSw; (try dsimp only at hSw); go_simp; (try (with_reducible rfl)))); (try simp only [Act.put, List.getElem_toArray, List.getElem_cons_zero, List.getElem_cons_succ, List.setIfInBounds_toArray, List.set_cons_zero, List.set_cons_succ]))
    refine wpAnyH_done (by kernel_rfl) ?_ _
    go_wp2
    go_ret2
    exact ⟨by rw [HE.out]; rfl, grown_trans HG.out (grown_trans (drew_g _) (grown_trans H1.out (grown_trans H2.out (grown_trans H3.out H4.out))))⟩
end Go.Proofs.YtjeogojgabfbiaaGreatDoor.Asm
