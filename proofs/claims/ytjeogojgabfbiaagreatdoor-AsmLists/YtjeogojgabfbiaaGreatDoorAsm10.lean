/-
  What the document's own parts does.
-/
import Derived.Test.YtjeogojgabfbiaaGreatDoorAsm9
namespace Go.Proofs.YtjeogojgabfbiaaGreatDoor.Asm
open Go.RowKit Go.Proofs.YtjeogojgabfbiaaGreatDoor.Bits Go.Proofs.YtjeogojgabfbiaaGreatDoor.Gw Go.Proofs.YtjeogojgabfbiaaGreatDoor.Risc Go.Proofs.YtjeogojgabfbiaaGreatDoor.Tx
set_option linter.unusedVariables false
set_option linter.unusedSimpArgs false
set_option maxRecDepth 100000

def meNs : List (List UInt8) := [[76, 68, 82], [76, 68, 66], [83, 84, 82], [83, 84, 66]]
theorem idx_lt (l : List (List UInt8)) (s : List UInt8) : -1 ≤ idxI l s ∧ idxI l s < l.length := by
  have key : ∀ (l : List (List UInt8)) k, idxN l s = some k → k < l.length := by
    intro l
    induction l with
    | nil => intro k h; cases h
    | cons x l ih =>
      intro k h
      rw [idxN] at h
      split at h
      · cases h; simp
      · cases hh : idxN l s with
        | none => rw [hh] at h; cases h
        | some j => rw [hh] at h; simp at h; have := ih j hh; simp; omega
  unfold idxI
  cases h : idxN l s with
  | none => simp; omega
  | some k => have := key l k h; simp; omega
theorem me_cells (w : World) : ∀ k : Nat, ∀ h : k < meNs.length, ((w.alloc (Obj.cells #[Value.int IntKind.i64 0, Value.bool false, Value.bool false, Value.int IntKind.i64 0, Value.int IntKind.i64 0, Value.int IntKind.i64 0, Value.int IntKind.i64 0, Value.int IntKind.i64 0] 47)).alloc (Obj.cells #[Value.string ⟨#[76, 68, 82]⟩, Value.string ⟨#[76, 68, 66]⟩, Value.string ⟨#[83, 84, 82]⟩, Value.string ⟨#[83, 84, 66]⟩] 9)).cell? ⟨w.heap.size + 1, k, none⟩ = some (.string (bs meNs[k])) := by
  intro k h
  have e : ((w.alloc (Obj.cells #[Value.int IntKind.i64 0, Value.bool false, Value.bool false, Value.int IntKind.i64 0, Value.int IntKind.i64 0, Value.int IntKind.i64 0, Value.int IntKind.i64 0, Value.int IntKind.i64 0] 47)).alloc (Obj.cells #[Value.string ⟨#[76, 68, 82]⟩, Value.string ⟨#[76, 68, 66]⟩, Value.string ⟨#[83, 84, 82]⟩, Value.string ⟨#[83, 84, 66]⟩] 9)).heap[w.heap.size + 1]? = some (Obj.cells #[Value.string ⟨#[76, 68, 82]⟩, Value.string ⟨#[76, 68, 66]⟩, Value.string ⟨#[83, 84, 82]⟩, Value.string ⟨#[83, 84, 66]⟩] 9) := by
    have := heap_alloc_new (w.alloc (Obj.cells #[Value.int IntKind.i64 0, Value.bool false, Value.bool false, Value.int IntKind.i64 0, Value.int IntKind.i64 0, Value.int IntKind.i64 0, Value.int IntKind.i64 0, Value.int IntKind.i64 0] 47)) (Obj.cells #[Value.string ⟨#[76, 68, 82]⟩, Value.string ⟨#[76, 68, 66]⟩, Value.string ⟨#[83, 84, 82]⟩, Value.string ⟨#[83, 84, 66]⟩] 9)
    rw [size_alloc] at this
    exact this
  rw [cell_of_row _ _ _ _ _ _ e]
  have : k = 0 ∨ k = 1 ∨ k = 2 ∨ k = 3 := by simp [meNs] at h; omega
  rcases this with h | h | h | h <;> subst h <;> rfl
set_option maxHeartbeats 2000000 in
theorem parts_mem (s : List UInt8) (hs : s.length ≤ 1000) (k : Nat) (hk : idxI meNs s = k) (w : World) :
    Calls Tryz.prog 27 #[.string (bs s)] w fun e w' => e = .returned (.tuple #[ins 2 (decide (1 < (k : Int))) ((k : Int) % 2 == 1) 0 0 0 0 0, .bool true]) ∧ w.grownBy w' none := by
  have hk4 := idx_lt meNs s
  rw [hk] at hk4
  have k4 : (k : Int) < 4 := by have := hk4.2; simpa [meNs] using this
  have k0 : (0 : Int) ≤ (k : Int) := by omega
  have HX := hide (index_any meNs s 4 (w.heap.size + 1) rfl (by decide) _ (me_cells w))
  rw [hk] at HX
  have ht : (k : Int).tmod 2 = (k : Int) % 2 := Int.tmod_eq_emod_of_nonneg k0
  clear hk hk4
  go_enter Tryz.func27, Tryz.ntmps27
  go_wp2_with (go_at_call 55; refine HX.out.mono ?_; rintro e w1 ⟨rfl, rfl⟩)
  refine bodyPost_ret (v := .tuple #[ins 2 (decide (1 < (k : Int))) ((k : Int) % 2 == 1) 0 0 0 0 0, .bool true]) (by simp [results, Tryz.results27, go_sem, ins]) rfl ?_
  exact ⟨rfl, grown_trans (World.grownBy_alloc _ _ _) (World.grownBy_alloc _ _ _)⟩
theorem own_g {w w' : World} {b : Nat} {cs : Array Value} (h : Own w b cs) (g : w.grownBy w' none) : Own w' b cs := by
  unfold Own at h ⊢
  rw [g.block b (lt_of_block h) (by simp)]
  exact h
theorem drewN_g (w : World) (n : Nat) : w.grownBy (w.drewN n) none := ⟨rfl, rfl, rfl, Nat.le_refl _, fun _ _ _ => rfl⟩
/- Eight cells of a block that came after w are written. -/
theorem far_set8 {w V : World} {b : Nat} (h : w.grownBy V none) (hb : w.heap.size ≤ b) (x0 x1 x2 x3 x4 x5 x6 x7 : Value) :
    w.grownBy ((((((((V.setCell ⟨b, 0, none⟩ x0).setCell ⟨b, 1, none⟩ x1).setCell ⟨b, 2, none⟩ x2).setCell ⟨b, 3, none⟩ x3).setCell ⟨b, 4, none⟩ x4).setCell ⟨b, 5, none⟩ x5).setCell ⟨b, 6, none⟩ x6).setCell ⟨b, 7, none⟩ x7) none := by
  have one : ∀ (V : World), w.grownBy V none → ∀ (i : Nat) (x : Value), w.grownBy (V.setCell ⟨b, i, none⟩ x) none := fun V h i x =>
    ⟨h.os, h.tape, h.output, by simpa [World.setCell] using h.size, fun k hk hr => by rw [← h.block k hk hr]; simp [World.setCell, Array.getElem?_modify]; omega⟩
  exact one _ (one _ (one _ (one _ (one _ (one _ (one _ (one _ h 0 x0) 1 x1) 2 x2) 3 x3) 4 x4) 5 x5) 6 x6) 7 x7
set_option maxHeartbeats 4000000 in
theorem parts_jump (s : List UInt8) (hs : s.length ≤ 1000) (hk : idxI meNs s = -1) (hcut : cutB s [46] = true) (w : World) :
    Calls Tryz.prog 27 #[.string (bs s)] w fun e w' => e = .returned (.tuple #[ins 3 false (cut1 s [46] == [66, 76]) (idxI cdNs (cut2 s [46])) 0 0 0 0, .bool (decide (0 ≤ idxI cdNs (cut2 s [46])) && (cut1 s [46] == [66] || cut1 s [46] == [66, 76]))]) ∧ w.grownBy w' none := by
  have HX := hide (index_any meNs s 4 (w.heap.size + 1) rfl (by decide) _ (me_cells w))
  rw [hk] at HX
  have b4 : (⟨#[46]⟩ : ByteArray) = bs [46] := rfl
  have b5 : (⟨#[66]⟩ : ByteArray) = bs [66] := rfl
  have b6 : (⟨#[66, 76]⟩ : ByteArray) = bs [66, 76] := rfl
  have HC := hide (fun W => cut_any s [46] (by omega) (by decide) (by decide) W)
  rw [hcut] at HC
  obtain ⟨p, hp⟩ : ∃ p, cut1 s [46] = p := ⟨_, rfl⟩
  obtain ⟨t, ht⟩ : ∃ t, cut2 s [46] = t := ⟨_, rfl⟩
  have t1 := test_bs p [66, 76]
  have t2 := test_bs p [66]
  have HO : Hid (Own ((w.alloc (Obj.cells #[Value.int IntKind.i64 0, Value.bool false, Value.bool false, Value.int IntKind.i64 0, Value.int IntKind.i64 0, Value.int IntKind.i64 0, Value.int IntKind.i64 0, Value.int IntKind.i64 0] 47)).alloc (Obj.cells #[Value.string ⟨#[76, 68, 82]⟩, Value.string ⟨#[76, 68, 66]⟩, Value.string ⟨#[83, 84, 82]⟩, Value.string ⟨#[83, 84, 66]⟩] 9)) w.heap.size #[Value.int IntKind.i64 0, Value.bool false, Value.bool false, Value.int IntKind.i64 0, Value.int IntKind.i64 0, Value.int IntKind.i64 0, Value.int IntKind.i64 0, Value.int IntKind.i64 0]) := hide (own_g (Own.new w #[Value.int IntKind.i64 0, Value.bool false, Value.bool false, Value.int IntKind.i64 0, Value.int IntKind.i64 0, Value.int IntKind.i64 0, Value.int IntKind.i64 0, Value.int IntKind.i64 0]) (World.grownBy_alloc _ _ _))
  have HG : Hid (w.grownBy ((w.alloc (Obj.cells #[Value.int IntKind.i64 0, Value.bool false, Value.bool false, Value.int IntKind.i64 0, Value.int IntKind.i64 0, Value.int IntKind.i64 0, Value.int IntKind.i64 0, Value.int IntKind.i64 0] 47)).alloc (Obj.cells #[Value.string ⟨#[76, 68, 82]⟩, Value.string ⟨#[76, 68, 66]⟩, Value.string ⟨#[83, 84, 82]⟩, Value.string ⟨#[83, 84, 66]⟩] 9)) none) := hide (grown_trans (World.grownBy_alloc _ _ _) (World.grownBy_alloc _ _ _))
  rw [hp, ht] at HC
  rw [hp, ht]
  obtain ⟨B1, hB1⟩ : ∃ B1, (p == [66]) = B1 := ⟨_, rfl⟩
  obtain ⟨B2, hB2⟩ : ∃ B2, (p == [66, 76]) = B2 := ⟨_, rfl⟩
  obtain ⟨q, hq⟩ : ∃ q, idxI cdNs t = q := ⟨_, rfl⟩
  have ri := idx_lt cdNs t
  rw [hB1] at t2
  rw [hB2] at t1
  rw [hB1, hB2, hq]
  rw [hq] at ri
  have HQ := hide hq
  clear hp ht hk hcut hB1 hB2 hq
  go_enter Tryz.func27, Tryz.ntmps27
  go_upto_region 7 with (first
    | (go_at_call 55; refine HX.out.mono ?_; rintro e w1 ⟨rfl, rfl⟩)
    | (go_at_call 26; refine (HC.out _).mono ?_; rintro e w1 ⟨rfl, n, rfl⟩))
  have HO1 := hide (own_g HO.out (drewN_g _ n))
  have HG1 := hide (grown_trans HG.out (drewN_g _ n))
  generalize ((w.alloc (Obj.cells #[Value.int IntKind.i64 0, Value.bool false, Value.bool false, Value.int IntKind.i64 0, Value.int IntKind.i64 0, Value.int IntKind.i64 0, Value.int IntKind.i64 0, Value.int IntKind.i64 0] 47)).alloc (Obj.cells #[Value.string ⟨#[76, 68, 82]⟩, Value.string ⟨#[76, 68, 66]⟩, Value.string ⟨#[83, 84, 82]⟩, Value.string ⟨#[83, 84, 66]⟩] 9)).drewN n = V at HO1 HG1 ⊢
  have HR : Hid (w.heap.size ≤ w.heap.size) := hide (Nat.le_refl _)
  clear HX HC HO HG
  obtain ⟨R, hR⟩ : ∃ R, R = w.heap.size := ⟨_, rfl⟩
  replace HR : Hid (w.heap.size ≤ R) := hide (by omega)
  rw [← hR] at HO1 ⊢
  clear hR
  go_upto_region 8 with (first
    | (go_at_call 23; refine (conds_any _).mono ?_; rintro e w2 ⟨bb, rfl, hg, hb, hn⟩; have HO2 := hide (own_g HO1.out hg); have HG2 := hide (grown_trans HG1.out hg); have HX2 := hide (index_any cdNs t 16 bb rfl (by decide) w2 (fun k h => by rw [hn k h]; simp [nm, List.getD_eq_getElem?_getD, List.getElem?_eq_getElem h])); clear hg hb hn)
    | (go_at_call 55; refine HX2.out.mono ?_; rw [HQ.out]; rintro e w1 ⟨rfl, rfl⟩))
  have hd : ∀ j v, #[Value.int IntKind.i64 0, Value.bool false, Value.bool false, Value.int IntKind.i64 0, Value.int IntKind.i64 0, Value.int IntKind.i64 0, Value.int IntKind.i64 0, Value.int IntKind.i64 0][j]? = some v → w1.cell? ⟨R, j, none⟩ = some v := fun j v h => by rw [cell_of_row _ _ _ _ _ _ HO2.out]; exact h
  have y0 := hd 0 _ rfl
  have y1 := hd 1 _ rfl
  have y2 := hd 2 _ rfl
  have y3 := hd 3 _ rfl
  have y4 := hd 4 _ rfl
  have y5 := hd 5 _ rfl
  have y6 := hd 6 _ rfl
  have y7 := hd 7 _ rfl
  have yf : ∀ i, w1.frozen? ⟨R, i, none⟩ = false := fun i => by
    have := HO2.out
    unfold Own at this
    simp [World.frozen?, this]
  clear hd HX2
  have fin : ∀ (b : Bool) (q : Int), Own ((((((((w1.setCell ⟨R, 0, none⟩ (.int .i64 3)).setCell ⟨R, 1, none⟩ (.bool false)).setCell ⟨R, 2, none⟩ (.bool b)).setCell ⟨R, 3, none⟩ (.int .i64 q)).setCell ⟨R, 4, none⟩ (.int .i64 0)).setCell ⟨R, 5, none⟩ (.int .i64 0)).setCell ⟨R, 6, none⟩ (.int .i64 0)).setCell ⟨R, 7, none⟩ (.int .i64 0)) R #[.int .i64 3, .bool false, .bool b, .int .i64 q, .int .i64 0, .int .i64 0, .int .i64 0, .int .i64 0] ∧
      w.grownBy ((((((((w1.setCell ⟨R, 0, none⟩ (.int .i64 3)).setCell ⟨R, 1, none⟩ (.bool false)).setCell ⟨R, 2, none⟩ (.bool b)).setCell ⟨R, 3, none⟩ (.int .i64 q)).setCell ⟨R, 4, none⟩ (.int .i64 0)).setCell ⟨R, 5, none⟩ (.int .i64 0)).setCell ⟨R, 6, none⟩ (.int .i64 0)).setCell ⟨R, 7, none⟩ (.int .i64 0)) none := fun b q =>
    ⟨Own.set8 HO2.out _ _ _ _ _ _ _ _, far_set8 HG2.out HR.out _ _ _ _ _ _ _ _⟩
  have FIN := hide fin
  clear fin
  have q3 : (0 ≤ q) ∨ (q = -1) := by omega
  rcases q3 with q3 | rfl
  · cases B1 <;> cases B2
    · (go_wp2; (obtain ⟨o, g⟩ := FIN.out false q); generalize ((((((((w1.setCell ⟨R, 0, none⟩ (.int .i64 3)).setCell ⟨R, 1, none⟩ (.bool false)).setCell ⟨R, 2, none⟩ (.bool false)).setCell ⟨R, 3, none⟩ (.int .i64 q)).setCell ⟨R, 4, none⟩ (.int .i64 0)).setCell ⟨R, 5, none⟩ (.int .i64 0)).setCell ⟨R, 6, none⟩ (.int .i64 0)).setCell ⟨R, 7, none⟩ (.int .i64 0)) = WF at o g ⊢; (have z : ∀ j v, #[Value.int IntKind.i64 3, .bool false, .bool false, .int .i64 q, .int .i64 0, .int .i64 0, .int .i64 0, .int .i64 0][j]? = some v → WF.cell? ⟨R, j, none⟩ = some v := fun j v h => by rw [cell_of_row _ _ _ _ _ _ o]; exact h); have z0 := z 0 _ rfl; have z1 := z 1 _ rfl; have z2 := z 2 _ rfl; have z3 := z 3 _ rfl; have z4 := z 4 _ rfl; have z5 := z 5 _ rfl; have z6 := z 6 _ rfl; have z7 := z 7 _ rfl; refine bodyPost_ret (v := .tuple #[ins 3 false false q 0 0 0 0, .bool false]) (by simp [results, Tryz.results27, go_sem, ins, z0, z1, z2, z3, z4, z5, z6, z7]) rfl ?_; exact ⟨by simp [q3], g⟩)
    · (go_wp2; (obtain ⟨o, g⟩ := FIN.out true q); generalize ((((((((w1.setCell ⟨R, 0, none⟩ (.int .i64 3)).setCell ⟨R, 1, none⟩ (.bool false)).setCell ⟨R, 2, none⟩ (.bool true)).setCell ⟨R, 3, none⟩ (.int .i64 q)).setCell ⟨R, 4, none⟩ (.int .i64 0)).setCell ⟨R, 5, none⟩ (.int .i64 0)).setCell ⟨R, 6, none⟩ (.int .i64 0)).setCell ⟨R, 7, none⟩ (.int .i64 0)) = WF at o g ⊢; (have z : ∀ j v, #[Value.int IntKind.i64 3, .bool false, .bool true, .int .i64 q, .int .i64 0, .int .i64 0, .int .i64 0, .int .i64 0][j]? = some v → WF.cell? ⟨R, j, none⟩ = some v := fun j v h => by rw [cell_of_row _ _ _ _ _ _ o]; exact h); have z0 := z 0 _ rfl; have z1 := z 1 _ rfl; have z2 := z 2 _ rfl; have z3 := z 3 _ rfl; have z4 := z 4 _ rfl; have z5 := z 5 _ rfl; have z6 := z 6 _ rfl; have z7 := z 7 _ rfl; refine bodyPost_ret (v := .tuple #[ins 3 false true q 0 0 0 0, .bool true]) (by simp [results, Tryz.results27, go_sem, ins, z0, z1, z2, z3, z4, z5, z6, z7]) rfl ?_; exact ⟨by simp [q3], g⟩)
    · (go_wp2; (obtain ⟨o, g⟩ := FIN.out false q); generalize ((((((((w1.setCell ⟨R, 0, none⟩ (.int .i64 3)).setCell ⟨R, 1, none⟩ (.bool false)).setCell ⟨R, 2, none⟩ (.bool false)).setCell ⟨R, 3, none⟩ (.int .i64 q)).setCell ⟨R, 4, none⟩ (.int .i64 0)).setCell ⟨R, 5, none⟩ (.int .i64 0)).setCell ⟨R, 6, none⟩ (.int .i64 0)).setCell ⟨R, 7, none⟩ (.int .i64 0)) = WF at o g ⊢; (have z : ∀ j v, #[Value.int IntKind.i64 3, .bool false, .bool false, .int .i64 q, .int .i64 0, .int .i64 0, .int .i64 0, .int .i64 0][j]? = some v → WF.cell? ⟨R, j, none⟩ = some v := fun j v h => by rw [cell_of_row _ _ _ _ _ _ o]; exact h); have z0 := z 0 _ rfl; have z1 := z 1 _ rfl; have z2 := z 2 _ rfl; have z3 := z 3 _ rfl; have z4 := z 4 _ rfl; have z5 := z 5 _ rfl; have z6 := z 6 _ rfl; have z7 := z 7 _ rfl; refine bodyPost_ret (v := .tuple #[ins 3 false false q 0 0 0 0, .bool true]) (by simp [results, Tryz.results27, go_sem, ins, z0, z1, z2, z3, z4, z5, z6, z7]) rfl ?_; exact ⟨by simp [q3], g⟩)
    · (go_wp2; (obtain ⟨o, g⟩ := FIN.out true q); generalize ((((((((w1.setCell ⟨R, 0, none⟩ (.int .i64 3)).setCell ⟨R, 1, none⟩ (.bool false)).setCell ⟨R, 2, none⟩ (.bool true)).setCell ⟨R, 3, none⟩ (.int .i64 q)).setCell ⟨R, 4, none⟩ (.int .i64 0)).setCell ⟨R, 5, none⟩ (.int .i64 0)).setCell ⟨R, 6, none⟩ (.int .i64 0)).setCell ⟨R, 7, none⟩ (.int .i64 0)) = WF at o g ⊢; (have z : ∀ j v, #[Value.int IntKind.i64 3, .bool false, .bool true, .int .i64 q, .int .i64 0, .int .i64 0, .int .i64 0, .int .i64 0][j]? = some v → WF.cell? ⟨R, j, none⟩ = some v := fun j v h => by rw [cell_of_row _ _ _ _ _ _ o]; exact h); have z0 := z 0 _ rfl; have z1 := z 1 _ rfl; have z2 := z 2 _ rfl; have z3 := z 3 _ rfl; have z4 := z 4 _ rfl; have z5 := z 5 _ rfl; have z6 := z 6 _ rfl; have z7 := z 7 _ rfl; refine bodyPost_ret (v := .tuple #[ins 3 false true q 0 0 0 0, .bool true]) (by simp [results, Tryz.results27, go_sem, ins, z0, z1, z2, z3, z4, z5, z6, z7]) rfl ?_; exact ⟨by simp [q3], g⟩)
  · cases B1 <;> cases B2
    · (go_wp2; (obtain ⟨o, g⟩ := FIN.out false (-1)); generalize ((((((((w1.setCell ⟨R, 0, none⟩ (.int .i64 3)).setCell ⟨R, 1, none⟩ (.bool false)).setCell ⟨R, 2, none⟩ (.bool false)).setCell ⟨R, 3, none⟩ (.int .i64 (-1))).setCell ⟨R, 4, none⟩ (.int .i64 0)).setCell ⟨R, 5, none⟩ (.int .i64 0)).setCell ⟨R, 6, none⟩ (.int .i64 0)).setCell ⟨R, 7, none⟩ (.int .i64 0)) = WF at o g ⊢; (have z : ∀ j v, #[Value.int IntKind.i64 3, .bool false, .bool false, .int .i64 (-1), .int .i64 0, .int .i64 0, .int .i64 0, .int .i64 0][j]? = some v → WF.cell? ⟨R, j, none⟩ = some v := fun j v h => by rw [cell_of_row _ _ _ _ _ _ o]; exact h); have z0 := z 0 _ rfl; have z1 := z 1 _ rfl; have z2 := z 2 _ rfl; have z3 := z 3 _ rfl; have z4 := z 4 _ rfl; have z5 := z 5 _ rfl; have z6 := z 6 _ rfl; have z7 := z 7 _ rfl; refine bodyPost_ret (v := .tuple #[ins 3 false false (-1) 0 0 0 0, .bool false]) (by simp [results, Tryz.results27, go_sem, ins, z0, z1, z2, z3, z4, z5, z6, z7]) rfl ?_; exact ⟨by rfl, g⟩)
    · (go_wp2; (obtain ⟨o, g⟩ := FIN.out true (-1)); generalize ((((((((w1.setCell ⟨R, 0, none⟩ (.int .i64 3)).setCell ⟨R, 1, none⟩ (.bool false)).setCell ⟨R, 2, none⟩ (.bool true)).setCell ⟨R, 3, none⟩ (.int .i64 (-1))).setCell ⟨R, 4, none⟩ (.int .i64 0)).setCell ⟨R, 5, none⟩ (.int .i64 0)).setCell ⟨R, 6, none⟩ (.int .i64 0)).setCell ⟨R, 7, none⟩ (.int .i64 0)) = WF at o g ⊢; (have z : ∀ j v, #[Value.int IntKind.i64 3, .bool false, .bool true, .int .i64 (-1), .int .i64 0, .int .i64 0, .int .i64 0, .int .i64 0][j]? = some v → WF.cell? ⟨R, j, none⟩ = some v := fun j v h => by rw [cell_of_row _ _ _ _ _ _ o]; exact h); have z0 := z 0 _ rfl; have z1 := z 1 _ rfl; have z2 := z 2 _ rfl; have z3 := z 3 _ rfl; have z4 := z 4 _ rfl; have z5 := z 5 _ rfl; have z6 := z 6 _ rfl; have z7 := z 7 _ rfl; refine bodyPost_ret (v := .tuple #[ins 3 false true (-1) 0 0 0 0, .bool false]) (by simp [results, Tryz.results27, go_sem, ins, z0, z1, z2, z3, z4, z5, z6, z7]) rfl ?_; exact ⟨by rfl, g⟩)
    · (go_wp2; (obtain ⟨o, g⟩ := FIN.out false (-1)); generalize ((((((((w1.setCell ⟨R, 0, none⟩ (.int .i64 3)).setCell ⟨R, 1, none⟩ (.bool false)).setCell ⟨R, 2, none⟩ (.bool false)).setCell ⟨R, 3, none⟩ (.int .i64 (-1))).setCell ⟨R, 4, none⟩ (.int .i64 0)).setCell ⟨R, 5, none⟩ (.int .i64 0)).setCell ⟨R, 6, none⟩ (.int .i64 0)).setCell ⟨R, 7, none⟩ (.int .i64 0)) = WF at o g ⊢; (have z : ∀ j v, #[Value.int IntKind.i64 3, .bool false, .bool false, .int .i64 (-1), .int .i64 0, .int .i64 0, .int .i64 0, .int .i64 0][j]? = some v → WF.cell? ⟨R, j, none⟩ = some v := fun j v h => by rw [cell_of_row _ _ _ _ _ _ o]; exact h); have z0 := z 0 _ rfl; have z1 := z 1 _ rfl; have z2 := z 2 _ rfl; have z3 := z 3 _ rfl; have z4 := z 4 _ rfl; have z5 := z 5 _ rfl; have z6 := z 6 _ rfl; have z7 := z 7 _ rfl; refine bodyPost_ret (v := .tuple #[ins 3 false false (-1) 0 0 0 0, .bool false]) (by simp [results, Tryz.results27, go_sem, ins, z0, z1, z2, z3, z4, z5, z6, z7]) rfl ?_; exact ⟨by rfl, g⟩)
    · (go_wp2; (obtain ⟨o, g⟩ := FIN.out true (-1)); generalize ((((((((w1.setCell ⟨R, 0, none⟩ (.int .i64 3)).setCell ⟨R, 1, none⟩ (.bool false)).setCell ⟨R, 2, none⟩ (.bool true)).setCell ⟨R, 3, none⟩ (.int .i64 (-1))).setCell ⟨R, 4, none⟩ (.int .i64 0)).setCell ⟨R, 5, none⟩ (.int .i64 0)).setCell ⟨R, 6, none⟩ (.int .i64 0)).setCell ⟨R, 7, none⟩ (.int .i64 0)) = WF at o g ⊢; (have z : ∀ j v, #[Value.int IntKind.i64 3, .bool false, .bool true, .int .i64 (-1), .int .i64 0, .int .i64 0, .int .i64 0, .int .i64 0][j]? = some v → WF.cell? ⟨R, j, none⟩ = some v := fun j v h => by rw [cell_of_row _ _ _ _ _ _ o]; exact h); have z0 := z 0 _ rfl; have z1 := z 1 _ rfl; have z2 := z 2 _ rfl; have z3 := z 3 _ rfl; have z4 := z 4 _ rfl; have z5 := z 5 _ rfl; have z6 := z 6 _ rfl; have z7 := z 7 _ rfl; refine bodyPost_ret (v := .tuple #[ins 3 false true (-1) 0 0 0 0, .bool false]) (by simp [results, Tryz.results27, go_sem, ins, z0, z1, z2, z3, z4, z5, z6, z7]) rfl ?_; exact ⟨by rfl, g⟩)
end Go.Proofs.YtjeogojgabfbiaaGreatDoor.Asm
