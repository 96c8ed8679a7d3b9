/-
  The document's own Delete.
-/
import Derived.Test.YtaekljpijnkjoaaDoorRf3
namespace Go.Proofs.YtaekljpijnkjoaaDoor.St
open Go.RowKit Go.Maps Go.Proofs.YtaekljpijnkjoaaDoor.Tx
set_option linter.unusedVariables false
set_option linter.unusedSimpArgs false
set_option maxRecDepth 100000

set_option maxHeartbeats 2000000 in
theorem rdel_no {w : World} {B q : Nat} {vN vT : Value} {l A C : List Pr} {n : List UInt8} (r : Rs w B q vN vT l) (c : Cut n l A C none) (hl : l.length ≤ 64) :
    Calls Tryd.prog 13 #[.pointer (some ⟨q, 0, none⟩), .string (bs n)] w fun e w' => e = .returned (.bool false) ∧ w' = w := by
  have HP := hide (place_at r c hl)
  clear r c
  go_enter Tryd.func13, Tryd.ntmps13
  go_wp2_with (go_at_call 24; refine HP.out.mono ?_; rintro e w' ⟨rfl, h⟩; replace h := h.symm; subst h)
  go_ret
  exact ⟨rfl, rfl⟩
/- The head's two cells. -/
theorem head_set0 {W : World} {q : Nat} {a b v : Value} (h : W.heap[q]? = some (.cells #[a, b] 28 (0, 0))) : (W.setCell ⟨q, 0, none⟩ v).heap[q]? = some (.cells #[v, b] 28 (0, 0)) := by
  have hlt := (Array.getElem?_eq_some_iff.1 h).1
  have h' : W.heap[q] = .cells #[a, b] 28 (0, 0) := by simpa [Array.getElem?_eq_getElem hlt] using h
  show (W.heap.modify q _)[q]? = _
  rw [Array.getElem?_eq_getElem (by simpa using hlt), Array.getElem_modify_self, h']
  rfl
theorem head_set1 {W : World} {q : Nat} {a b v : Value} (h : W.heap[q]? = some (.cells #[a, b] 28 (0, 0))) : (W.setCell ⟨q, 1, none⟩ v).heap[q]? = some (.cells #[a, v] 28 (0, 0)) := by
  have hlt := (Array.getElem?_eq_some_iff.1 h).1
  have h' : W.heap[q] = .cells #[a, b] 28 (0, 0) := by simpa [Array.getElem?_eq_getElem hlt] using h
  show (W.heap.modify q _)[q]? = _
  rw [Array.getElem?_eq_getElem (by simpa using hlt), Array.getElem_modify_self, h']
  rfl
theorem head_free {W : World} {q k : Nat} {c : Array Value} {t : TypeId} (h : W.heap[q]? = some (.cells c t (0, 0))) : W.frozen? ⟨q, k, none⟩ = false := by simp [World.frozen?, h]
/- A row that is new since U. -/
theorem new_row {U W W' : World} {n : Nat} {v : Value} {xs : List Value} (hU : U.grownBy W none) (h : W.ownsRow U.heap.size 9 1 v n xs) (hg : W.grownBy W' v.ownBlock) : U.grownBy W' none :=
  hU.andThen hg (fun j hj => .inl (h.lt j hj).1)
set_option maxHeartbeats 8000000 in
theorem rdel_yes {w : World} {B q : Nat} {vN vT : Value} {l A C : List Pr} {n u : List UInt8} (r : Rs w B q vN vT l) (c : Cut n l A C (some u)) (hl : l.length ≤ 64) (hB : B ≤ w.heap.size) :
    Calls Tryd.prog 13 #[.pointer (some ⟨q, 0, none⟩), .string (bs n)] w fun e w' => e = .returned (.bool true) ∧ ∃ vN' vT', Rs w' B q vN' vT' (A ++ C) ∧ w.grownBy w' (some q) := by
  have HP := hide (place_at r c hl)
  have hlen : l.length = A.length + (1 + C.length) := by rw [c.is]; simp; omega
  have hAC : A.length + (1 + C.length) ≤ 64 := by rw [← hlen]; exact hl
  have hnm : l.map nmV = A.map nmV ++ ((n, u) :: C).map nmV := by rw [c.is]; simp
  have htx : l.map txV = A.map txV ++ ((n, u) :: C).map txV := by rw [c.is]; simp
  have hnm' : l.map nmV = (A ++ [(n, u)]).map nmV ++ C.map nmV := by rw [c.is]; simp
  have htx' : l.map txV = (A ++ [(n, u)]).map txV ++ C.map txV := by rw [c.is]; simp
  have r1 := r.nm
  have r2 := r.tx
  obtain ⟨a1, ha1, sa1⟩ := cut_ahead (xs := A.map nmV) (ys := ((n, u) :: C).map nmV) (by rw [← hnm]; simpa [hlen, Nat.add_comm, Nat.add_left_comm] using r1)
  obtain ⟨c1, hc1, sc1⟩ := cut_behind (xs := (A ++ [(n, u)]).map nmV) (ys := C.map nmV) (by rw [← hnm']; simpa [hlen, Nat.add_comm, Nat.add_left_comm] using r1)
  have HT := hide (fun (W : World) (h : W.ownsRow B 9 1 vT l.length (l.map txV)) => cut_ahead (w := W) (B := B) (v := vT) (xs := A.map txV) (ys := ((n, u) :: C).map txV) (by rw [← htx]; simpa [hlen, Nat.add_comm, Nat.add_left_comm] using h))
  have HT' := hide (fun (W : World) (h : W.ownsRow B 9 1 vT l.length (l.map txV)) => cut_behind (w := W) (B := B) (v := vT) (xs := (A ++ [(n, u)]).map txV) (ys := C.map txV) (by rw [← htx']; simpa [hlen, Nat.add_comm, Nat.add_left_comm] using h))
  obtain ⟨k, hk⟩ : ∃ k, A.length = k := ⟨_, rfl⟩
  simp only [List.length_map, List.length_append, List.length_cons, List.length_nil, hk, Nat.zero_add, Int.natCast_add, Int.cast_ofNat_Int] at ha1 hc1
  have hk64 : (k : Int) ≤ 64 := by omega
  have hwr : IntKind.i64.wrap ((k : Int) + 1) = (k : Int) + 1 := IntWalk.i64_in _ ⟨by omega, by omega⟩
  rw [hk] at HP
  have hc0 := r.c0
  have HR := hide r
  have SA1 := hide sa1
  have SC1 := hide sc1
  have HB := hide hB
  have HAC := hide hAC
  have HK := hide hk
  clear r c hnm htx hnm' htx' r1 r2 sa1 sc1 hlen hl hB hAC hk
  go_enter Tryd.func13, Tryd.ntmps13
  go_upto_region 5 with (go_at_call 24; refine HP.out.mono ?_; rintro e w' ⟨rfl, h⟩; replace h := h.symm; subst h)
  refine wp_region_last (S := fun W => (W.cell? ⟨q, 0, none⟩ = some vN)) (last := 19) (by kernel_rfl) hc0 (fun hHeld => ?_)
  have HU := hide (HR.out.grown (drew_g w))
  have SA := hide (SA1.out.grown (drew_g w))
  have SC := hide (SC1.out.grown (drew_g w))
  generalize hU : w.drew = U at hHeld HU SA SC ⊢
  have SK := hide (fun (W : World) (hg : U.grownBy W none) => (HU.out.grown hg).c0)
  ((refine wpAnyL_take (i := 0) (v := ?_) rfl (by kernel_rfl) (by kernel_rfl) (by kernel_rfl) (by kernel_rfl) (fun _ _ _ h => h) (Or.inl ⟨by rfl, ?_⟩) (by assumption) ?_; rotate_left 1; (focus (intro w hSw; (try dsimp only at hSw); go_simp; (try (with_reducible rfl)))); (try simp only [Act.put, List.getElem_toArray, List.getElem_cons_zero, List.getElem_cons_succ, List.setIfInBounds_toArray, List.set_cons_zero, List.set_cons_succ])); (refine wpAnyL_take (i := 2) (v := ?_) rfl (by kernel_rfl) (by kernel_rfl) (by kernel_rfl) (by kernel_rfl) (fun _ _ _ h => h) (Or.inl ⟨by rfl, ?_⟩) (by assumption) ?_; rotate_left 1; (focus (intro w hSw; (try dsimp only at hSw); go_simp; (try (with_reducible rfl)))); (try simp only [Act.put, List.getElem_toArray, List.getElem_cons_zero, List.getElem_cons_succ, List.setIfInBounds_toArray, List.set_cons_zero, List.set_cons_succ])); (refine wpAnyL_take (i := 3) (v := ?_) rfl (by kernel_rfl) (by kernel_rfl) (by kernel_rfl) (by kernel_rfl) (fun _ _ _ h => h) (Or.inl ⟨by rfl, ?_⟩) (by assumption) ?_; rotate_left 1; (focus (intro w hSw; (try dsimp only at hSw); go_simp; (try (with_reducible rfl)))); (try simp only [Act.put, List.getElem_toArray, List.getElem_cons_zero, List.getElem_cons_succ, List.setIfInBounds_toArray, List.set_cons_zero, List.set_cons_succ])); (refine wpAnyL_take (i := 4) (v := ?_) rfl (by kernel_rfl) (by kernel_rfl) (by kernel_rfl) (by kernel_rfl) (fun _ _ _ h => h) (Or.inl ⟨by rfl, ?_⟩) (by assumption) ?_; rotate_left 1; (focus (intro w hSw; (try dsimp only at hSw); go_simp; (try (with_reducible rfl)))); (try simp only [Act.put, List.getElem_toArray, List.getElem_cons_zero, List.getElem_cons_succ, List.setIfInBounds_toArray, List.set_cons_zero, List.set_cons_succ])); (refine wpAnyL_take (i := 5) (v := ?_) rfl (by kernel_rfl) (by kernel_rfl) (by kernel_rfl) (by kernel_rfl) (fun _ _ _ h => h) (Or.inl ⟨by rfl, ?_⟩) (by assumption) ?_; rotate_left 1; (focus (intro w hSw; (try dsimp only at hSw); go_simp; (try (with_reducible rfl)))); (try simp only [Act.put, List.getElem_toArray, List.getElem_cons_zero, List.getElem_cons_succ, List.setIfInBounds_toArray, List.set_cons_zero, List.set_cons_succ])); (refine wpAnyL_take (i := 6) (v := ?_) rfl (by kernel_rfl) (by kernel_rfl) (by kernel_rfl) (by kernel_rfl) (fun _ _ _ h => h) (Or.inl ⟨by rfl, ?_⟩) (by assumption) ?_; rotate_left 1; (focus (intro w hSw; (try dsimp only at hSw); go_simp; (try (with_reducible rfl)))); (try simp only [Act.put, List.getElem_toArray, List.getElem_cons_zero, List.getElem_cons_succ, List.setIfInBounds_toArray, List.set_cons_zero, List.set_cons_succ])); (refine wpAnyL_take (i := 7) (v := ?_) rfl (by kernel_rfl) (by kernel_rfl) (by kernel_rfl) (by kernel_rfl) (fun _ _ _ h => h) (Or.inl ⟨by rfl, ?_⟩) (by assumption) ?_; rotate_left 1; (focus (intro w hSw; (try dsimp only at hSw); go_simp; (try (with_reducible rfl)))); (try simp only [Act.put, List.getElem_toArray, List.getElem_cons_zero, List.getElem_cons_succ, List.setIfInBounds_toArray, List.set_cons_zero, List.set_cons_succ])); (refine wpAnyL_take (i := 9) (v := ?_) rfl (by kernel_rfl) (by kernel_rfl) (by kernel_rfl) (by kernel_rfl) (fun _ _ _ h => h) (Or.inl ⟨by rfl, ?_⟩) (by assumption) ?_; rotate_left 1; (focus (intro w hSw; (try dsimp only at hSw); go_simp; (try (with_reducible rfl)))); (try simp only [Act.put, List.getElem_toArray, List.getElem_cons_zero, List.getElem_cons_succ, List.setIfInBounds_toArray, List.set_cons_zero, List.set_cons_succ])); (refine wpAnyL_take (i := 10) (v := ?_) rfl (by kernel_rfl) (by kernel_rfl) (by kernel_rfl) (by kernel_rfl) (fun _ _ _ h => h) (Or.inl ⟨by rfl, ?_⟩) (by assumption) ?_; rotate_left 1; (focus (intro w hSw; (try dsimp only at hSw); go_simp; (try (with_reducible rfl)))); (try simp only [Act.put, List.getElem_toArray, List.getElem_cons_zero, List.getElem_cons_succ, List.setIfInBounds_toArray, List.set_cons_zero, List.set_cons_succ])); (refine wpAnyL_take (i := 11) (v := ?_) rfl (by kernel_rfl) (by kernel_rfl) (by kernel_rfl) (by kernel_rfl) (fun _ _ _ h => h) (Or.inl ⟨by rfl, ?_⟩) (by assumption) ?_; rotate_left 1; (focus (intro w hSw; (try dsimp only at hSw); go_simp; (try (with_reducible rfl)))); (try simp only [Act.put, List.getElem_toArray, List.getElem_cons_zero, List.getElem_cons_succ, List.setIfInBounds_toArray, List.set_cons_zero, List.set_cons_succ])); (refine wpAnyL_take (i := 12) (v := ?_) rfl (by kernel_rfl) (by kernel_rfl) (by kernel_rfl) (by kernel_rfl) (fun _ _ _ h => h) (Or.inl ⟨by rfl, ?_⟩) (by assumption) ?_; rotate_left 1; (focus (intro w hSw; (try dsimp only at hSw); go_simp; (try (with_reducible rfl)))); (try simp only [Act.put, List.getElem_toArray, List.getElem_cons_zero, List.getElem_cons_succ, List.setIfInBounds_toArray, List.set_cons_zero, List.set_cons_succ])); (refine wpAnyL_take (i := 13) (v := ?_) rfl (by kernel_rfl) (by kernel_rfl) (by kernel_rfl) (by kernel_rfl) (fun _ _ _ h => h) (Or.inl ⟨by rfl, ?_⟩) (by assumption) ?_; rotate_left 1; (focus (intro w hSw; (try dsimp only at hSw); go_simp; (try (with_reducible rfl)))); (try simp only [Act.put, List.getElem_toArray, List.getElem_cons_zero, List.getElem_cons_succ, List.setIfInBounds_toArray, List.set_cons_zero, List.set_cons_succ])); (refine wpAnyL_take (i := 14) (v := ?_) rfl (by kernel_rfl) (by kernel_rfl) (by kernel_rfl) (by kernel_rfl) (fun _ _ _ h => h) (Or.inl ⟨by rfl, ?_⟩) (by assumption) ?_; rotate_left 1; (focus (intro w hSw; (try dsimp only at hSw); go_simp; (try (with_reducible rfl)))); (try simp only [Act.put, List.getElem_toArray, List.getElem_cons_zero, List.getElem_cons_succ, List.setIfInBounds_toArray, List.set_cons_zero, List.set_cons_succ])); (refine wpAnyL_take (i := 15) (v := ?_) rfl (by kernel_rfl) (by kernel_rfl) (by kernel_rfl) (by kernel_rfl) (fun _ _ _ h => h) (Or.inl ⟨by rfl, ?_⟩) (by assumption) ?_; rotate_left 1; (focus (intro w hSw; (try dsimp only at hSw); go_simp; (try (with_reducible rfl)))); (try simp only [Act.put, List.getElem_toArray, List.getElem_cons_zero, List.getElem_cons_succ, List.setIfInBounds_toArray, List.set_cons_zero, List.set_cons_succ])); refine turn_L (i := 1) rfl (by kernel_rfl) (fun Q hQ => ?_); go_simp; refine hQ.out _ _ (SK.out _ (alloc_g _ _)) (fun hHeld => ?_); clear hQ Q; have O1 := hide (empty_row U); have G1 := hide (alloc_g U (.cells #[] 9)); (try simp only [Act.put, List.getElem_toArray, List.getElem_cons_zero, List.getElem_cons_succ, List.setIfInBounds_toArray, List.set_cons_zero, List.set_cons_succ]); refine turn_L (i := 8) rfl (by kernel_rfl) (fun Q hQ => ?_); rw [if_pos (by rfl)]; refine wp_app (.tmp 17) (.tmp 23) rfl U.heap.size _ _ _ rfl O1.out a1 (A.map nmV) rfl (SA.out.grown G1.out) (nmV_one A) (by have := HAC.out; simp; omega) G1.out.size ?_; intro d1 e1 W1 o1 g1; have O2 := hide o1; have G2 := hide (new_row G1.out O1.out g1); refine hQ.out _ _ (SK.out _ G2.out) (fun hHeld => ?_); clear hQ Q o1 g1 O1 G1; (try simp only [Act.put, List.getElem_toArray, List.getElem_cons_zero, List.getElem_cons_succ, List.setIfInBounds_toArray, List.set_cons_zero, List.set_cons_succ]); refine turn_L (i := 16) rfl (by kernel_rfl) (fun Q hQ => ?_); rw [if_pos (by rfl)]; refine wp_app (.tmp 24) (.tmp 31) rfl U.heap.size _ _ _ rfl O2.out c1 (C.map nmV) rfl (SC.out.grown G2.out) (nmV_one C) (by have := HAC.out; simp; omega) G2.out.size ?_; intro d2 e2 W2 o2 g2; have O3 := hide o2; have G3 := hide (new_row G2.out O2.out g2); refine hQ.out _ _ (SK.out _ G3.out) (fun hHeld => ?_); clear hQ Q o2 g2 O2 G2; (try simp only [Act.put, List.getElem_toArray, List.getElem_cons_zero, List.getElem_cons_succ, List.setIfInBounds_toArray, List.set_cons_zero, List.set_cons_succ]))
  refine turn_L (i := 17) rfl (by kernel_rfl) (fun Q hQ => ?_)
  go_simp
  refine hQ.out _ _ (SK.out _ G3.out) (fun hHeld => ?_)
  clear hQ Q
  (try simp only [Act.put, List.getElem_toArray, List.getElem_cons_zero, List.getElem_cons_succ, List.setIfInBounds_toArray, List.set_cons_zero, List.set_cons_succ])
  (refine wpAnyL_take (i := 18) (v := ?_) rfl (by kernel_rfl) (by kernel_rfl) (by kernel_rfl) (by kernel_rfl) (fun _ _ _ h => h) (Or.inl ⟨by rfl, ?_⟩) (by assumption) ?_; rotate_left 1; (focus (intro w hSw; (try dsimp only at hSw); go_simp; (try (with_reducible rfl)))); (try simp only [Act.put, List.getElem_toArray, List.getElem_cons_zero, List.getElem_cons_succ, List.setIfInBounds_toArray, List.set_cons_zero, List.set_cons_succ]))
  have hh2 := (HU.out.grown G3.out).head
  have hf2 := head_free (k := 0) hh2
  have hcw : W2.cell? ⟨q, 0, none⟩ = some vN := hHeld
  refine last_L rfl (by kernel_rfl) (by kernel_rfl) (fun Q hQ => ?_)
  go_simp
  refine hQ.out _ _ ?_
  clear hQ Q hHeld
  have VB := O3.out.lt
  obtain ⟨vN2, hvN2⟩ : ∃ v, Value.slice d2 (A.length + C.length) e2 = v := ⟨_, rfl⟩
  have O4 : W2.ownsRow U.heap.size 9 1 vN2 (A.length + C.length) (A.map nmV ++ C.map nmV) := by
    have := O3.out
    simp only [List.length_map, Nat.zero_add, List.nil_append, hvN2] at this
    exact this
  have hUs : U.heap.size = w.heap.size := by rw [← hU]; rfl
  have hqU : q < U.heap.size := HU.out.lt
  have hoff : vN2.ownBlock ≠ some q := fun e => by have := (O4.lt q e).1; omega
  obtain ⟨V, hV⟩ : ∃ V, W2.setCell ⟨q, 0, none⟩ vN2 = V := ⟨_, rfl⟩
  have gV : W2.grownBy V (some q) := by rw [← hV]; exact setCell_g _ _ _ _
  have HV := hide (show V.heap[q]? = some (.cells #[vN2, vT] 28 (0, 0)) by rw [← hV]; exact head_set0 hh2)
  have NV := hide (show V.ownsRow B 9 1 vN2 (A.length + C.length) (A.map nmV ++ C.map nmV) from row_down (O4.kept gV (.inr hoff)) (by rw [hUs]; exact HB.out))
  have TV := hide (show V.ownsRow B 9 1 vT l.length (l.map txV) from (HU.out.grown G3.out).tx.kept gV (.inr HU.out.off1))
  have GV := hide (show w.grownBy V (some q) from grown_then (grown_trans (by rw [← hU]; exact drew_g w) G3.out) gV)
  simp only [hvN2, hV]
  clear hcw hf2 hh2 O3 O4 G3 SK SA SC HU hUs hqU hoff gV hV hU VB ha1 hc1 hc0 HP
  obtain ⟨a2, ha2, sa2⟩ := HT.out V TV.out
  obtain ⟨c2, hc2, sc2⟩ := HT'.out V TV.out
  simp only [List.length_map, List.length_append, List.length_cons, List.length_nil, HK.out, Nat.zero_add, Int.natCast_add, Int.cast_ofNat_Int] at ha2 hc2
  have SA2 := hide sa2
  have SC2 := hide sc2
  have hc1 : V.cell? ⟨q, 1, none⟩ = some vT := by rw [cell_of_row _ _ _ _ _ _ HV.out]; rfl
  clear sa2 sc2 HT HT' hvN2
  go_upto_region 6 with fail
  refine wp_region_last (S := fun W => (W.cell? ⟨q, 1, none⟩ = some vT)) (last := 19) (by kernel_rfl) hc1 (fun hHeld => ?_)
  have SA := hide (SA2.out.grown (drew_g V))
  have SC := hide (SC2.out.grown (drew_g V))
  have HU := hide (show V.drew.heap[q]? = some (.cells #[vN2, vT] 28 (0, 0)) from HV.out)
  generalize hU : V.drew = U at hHeld HU SA SC ⊢
  have SK := hide (fun (W : World) (hg : U.grownBy W none) => show W.cell? ⟨q, 1, none⟩ = some vT by
    rw [cell_of_row _ _ _ _ _ _ ((hg.block q (Array.getElem?_eq_some_iff.1 HU.out).1 (by simp)).trans HU.out)]; rfl)
  ((refine wpAnyL_take (i := 0) (v := ?_) rfl (by kernel_rfl) (by kernel_rfl) (by kernel_rfl) (by kernel_rfl) (fun _ _ _ h => h) (Or.inl ⟨by rfl, ?_⟩) (by assumption) ?_; rotate_left 1; (focus (intro w hSw; (try dsimp only at hSw); go_simp; (try (with_reducible rfl)))); (try simp only [Act.put, List.getElem_toArray, List.getElem_cons_zero, List.getElem_cons_succ, List.setIfInBounds_toArray, List.set_cons_zero, List.set_cons_succ])); (refine wpAnyL_take (i := 2) (v := ?_) rfl (by kernel_rfl) (by kernel_rfl) (by kernel_rfl) (by kernel_rfl) (fun _ _ _ h => h) (Or.inl ⟨by rfl, ?_⟩) (by assumption) ?_; rotate_left 1; (focus (intro w hSw; (try dsimp only at hSw); go_simp; (try (with_reducible rfl)))); (try simp only [Act.put, List.getElem_toArray, List.getElem_cons_zero, List.getElem_cons_succ, List.setIfInBounds_toArray, List.set_cons_zero, List.set_cons_succ])); (refine wpAnyL_take (i := 3) (v := ?_) rfl (by kernel_rfl) (by kernel_rfl) (by kernel_rfl) (by kernel_rfl) (fun _ _ _ h => h) (Or.inl ⟨by rfl, ?_⟩) (by assumption) ?_; rotate_left 1; (focus (intro w hSw; (try dsimp only at hSw); go_simp; (try (with_reducible rfl)))); (try simp only [Act.put, List.getElem_toArray, List.getElem_cons_zero, List.getElem_cons_succ, List.setIfInBounds_toArray, List.set_cons_zero, List.set_cons_succ])); (refine wpAnyL_take (i := 4) (v := ?_) rfl (by kernel_rfl) (by kernel_rfl) (by kernel_rfl) (by kernel_rfl) (fun _ _ _ h => h) (Or.inl ⟨by rfl, ?_⟩) (by assumption) ?_; rotate_left 1; (focus (intro w hSw; (try dsimp only at hSw); go_simp; (try (with_reducible rfl)))); (try simp only [Act.put, List.getElem_toArray, List.getElem_cons_zero, List.getElem_cons_succ, List.setIfInBounds_toArray, List.set_cons_zero, List.set_cons_succ])); (refine wpAnyL_take (i := 5) (v := ?_) rfl (by kernel_rfl) (by kernel_rfl) (by kernel_rfl) (by kernel_rfl) (fun _ _ _ h => h) (Or.inl ⟨by rfl, ?_⟩) (by assumption) ?_; rotate_left 1; (focus (intro w hSw; (try dsimp only at hSw); go_simp; (try (with_reducible rfl)))); (try simp only [Act.put, List.getElem_toArray, List.getElem_cons_zero, List.getElem_cons_succ, List.setIfInBounds_toArray, List.set_cons_zero, List.set_cons_succ])); (refine wpAnyL_take (i := 6) (v := ?_) rfl (by kernel_rfl) (by kernel_rfl) (by kernel_rfl) (by kernel_rfl) (fun _ _ _ h => h) (Or.inl ⟨by rfl, ?_⟩) (by assumption) ?_; rotate_left 1; (focus (intro w hSw; (try dsimp only at hSw); go_simp; (try (with_reducible rfl)))); (try simp only [Act.put, List.getElem_toArray, List.getElem_cons_zero, List.getElem_cons_succ, List.setIfInBounds_toArray, List.set_cons_zero, List.set_cons_succ])); (refine wpAnyL_take (i := 7) (v := ?_) rfl (by kernel_rfl) (by kernel_rfl) (by kernel_rfl) (by kernel_rfl) (fun _ _ _ h => h) (Or.inl ⟨by rfl, ?_⟩) (by assumption) ?_; rotate_left 1; (focus (intro w hSw; (try dsimp only at hSw); go_simp; (try (with_reducible rfl)))); (try simp only [Act.put, List.getElem_toArray, List.getElem_cons_zero, List.getElem_cons_succ, List.setIfInBounds_toArray, List.set_cons_zero, List.set_cons_succ])); (refine wpAnyL_take (i := 9) (v := ?_) rfl (by kernel_rfl) (by kernel_rfl) (by kernel_rfl) (by kernel_rfl) (fun _ _ _ h => h) (Or.inl ⟨by rfl, ?_⟩) (by assumption) ?_; rotate_left 1; (focus (intro w hSw; (try dsimp only at hSw); go_simp; (try (with_reducible rfl)))); (try simp only [Act.put, List.getElem_toArray, List.getElem_cons_zero, List.getElem_cons_succ, List.setIfInBounds_toArray, List.set_cons_zero, List.set_cons_succ])); (refine wpAnyL_take (i := 10) (v := ?_) rfl (by kernel_rfl) (by kernel_rfl) (by kernel_rfl) (by kernel_rfl) (fun _ _ _ h => h) (Or.inl ⟨by rfl, ?_⟩) (by assumption) ?_; rotate_left 1; (focus (intro w hSw; (try dsimp only at hSw); go_simp; (try (with_reducible rfl)))); (try simp only [Act.put, List.getElem_toArray, List.getElem_cons_zero, List.getElem_cons_succ, List.setIfInBounds_toArray, List.set_cons_zero, List.set_cons_succ])); (refine wpAnyL_take (i := 11) (v := ?_) rfl (by kernel_rfl) (by kernel_rfl) (by kernel_rfl) (by kernel_rfl) (fun _ _ _ h => h) (Or.inl ⟨by rfl, ?_⟩) (by assumption) ?_; rotate_left 1; (focus (intro w hSw; (try dsimp only at hSw); go_simp; (try (with_reducible rfl)))); (try simp only [Act.put, List.getElem_toArray, List.getElem_cons_zero, List.getElem_cons_succ, List.setIfInBounds_toArray, List.set_cons_zero, List.set_cons_succ])); (refine wpAnyL_take (i := 12) (v := ?_) rfl (by kernel_rfl) (by kernel_rfl) (by kernel_rfl) (by kernel_rfl) (fun _ _ _ h => h) (Or.inl ⟨by rfl, ?_⟩) (by assumption) ?_; rotate_left 1; (focus (intro w hSw; (try dsimp only at hSw); go_simp; (try (with_reducible rfl)))); (try simp only [Act.put, List.getElem_toArray, List.getElem_cons_zero, List.getElem_cons_succ, List.setIfInBounds_toArray, List.set_cons_zero, List.set_cons_succ])); (refine wpAnyL_take (i := 13) (v := ?_) rfl (by kernel_rfl) (by kernel_rfl) (by kernel_rfl) (by kernel_rfl) (fun _ _ _ h => h) (Or.inl ⟨by rfl, ?_⟩) (by assumption) ?_; rotate_left 1; (focus (intro w hSw; (try dsimp only at hSw); go_simp; (try (with_reducible rfl)))); (try simp only [Act.put, List.getElem_toArray, List.getElem_cons_zero, List.getElem_cons_succ, List.setIfInBounds_toArray, List.set_cons_zero, List.set_cons_succ])); (refine wpAnyL_take (i := 14) (v := ?_) rfl (by kernel_rfl) (by kernel_rfl) (by kernel_rfl) (by kernel_rfl) (fun _ _ _ h => h) (Or.inl ⟨by rfl, ?_⟩) (by assumption) ?_; rotate_left 1; (focus (intro w hSw; (try dsimp only at hSw); go_simp; (try (with_reducible rfl)))); (try simp only [Act.put, List.getElem_toArray, List.getElem_cons_zero, List.getElem_cons_succ, List.setIfInBounds_toArray, List.set_cons_zero, List.set_cons_succ])); (refine wpAnyL_take (i := 15) (v := ?_) rfl (by kernel_rfl) (by kernel_rfl) (by kernel_rfl) (by kernel_rfl) (fun _ _ _ h => h) (Or.inl ⟨by rfl, ?_⟩) (by assumption) ?_; rotate_left 1; (focus (intro w hSw; (try dsimp only at hSw); go_simp; (try (with_reducible rfl)))); (try simp only [Act.put, List.getElem_toArray, List.getElem_cons_zero, List.getElem_cons_succ, List.setIfInBounds_toArray, List.set_cons_zero, List.set_cons_succ])); refine turn_L (i := 1) rfl (by kernel_rfl) (fun Q hQ => ?_); go_simp; refine hQ.out _ _ (SK.out _ (alloc_g _ _)) (fun hHeld => ?_); clear hQ Q; have O1 := hide (empty_row U); have G1 := hide (alloc_g U (.cells #[] 9)); (try simp only [Act.put, List.getElem_toArray, List.getElem_cons_zero, List.getElem_cons_succ, List.setIfInBounds_toArray, List.set_cons_zero, List.set_cons_succ]); refine turn_L (i := 8) rfl (by kernel_rfl) (fun Q hQ => ?_); rw [if_pos (by rfl)]; refine wp_app (.tmp 36) (.tmp 42) rfl U.heap.size _ _ _ rfl O1.out a2 (A.map txV) rfl (SA.out.grown G1.out) (txV_one A) (by have := HAC.out; simp; omega) G1.out.size ?_; intro d1 e1 W1 o1 g1; have O2 := hide o1; have G2 := hide (new_row G1.out O1.out g1); refine hQ.out _ _ (SK.out _ G2.out) (fun hHeld => ?_); clear hQ Q o1 g1 O1 G1; (try simp only [Act.put, List.getElem_toArray, List.getElem_cons_zero, List.getElem_cons_succ, List.setIfInBounds_toArray, List.set_cons_zero, List.set_cons_succ]); refine turn_L (i := 16) rfl (by kernel_rfl) (fun Q hQ => ?_); rw [if_pos (by rfl)]; refine wp_app (.tmp 43) (.tmp 50) rfl U.heap.size _ _ _ rfl O2.out c2 (C.map txV) rfl (SC.out.grown G2.out) (txV_one C) (by have := HAC.out; simp; omega) G2.out.size ?_; intro d2 e2 W2 o2 g2; have O3 := hide o2; have G3 := hide (new_row G2.out O2.out g2); refine hQ.out _ _ (SK.out _ G3.out) (fun hHeld => ?_); clear hQ Q o2 g2 O2 G2; (try simp only [Act.put, List.getElem_toArray, List.getElem_cons_zero, List.getElem_cons_succ, List.setIfInBounds_toArray, List.set_cons_zero, List.set_cons_succ]))
  refine turn_L (i := 17) rfl (by kernel_rfl) (fun Q hQ => ?_)
  go_simp
  refine hQ.out _ _ (SK.out _ G3.out) (fun hHeld => ?_)
  clear hQ Q
  (try simp only [Act.put, List.getElem_toArray, List.getElem_cons_zero, List.getElem_cons_succ, List.setIfInBounds_toArray, List.set_cons_zero, List.set_cons_succ])
  (refine wpAnyL_take (i := 18) (v := ?_) rfl (by kernel_rfl) (by kernel_rfl) (by kernel_rfl) (by kernel_rfl) (fun _ _ _ h => h) (Or.inl ⟨by rfl, ?_⟩) (by assumption) ?_; rotate_left 1; (focus (intro w hSw; (try dsimp only at hSw); go_simp; (try (with_reducible rfl)))); (try simp only [Act.put, List.getElem_toArray, List.getElem_cons_zero, List.getElem_cons_succ, List.setIfInBounds_toArray, List.set_cons_zero, List.set_cons_succ]))
  have hh2 : W2.heap[q]? = some (.cells #[vN2, vT] 28 (0, 0)) := (G3.out.block q (Array.getElem?_eq_some_iff.1 HU.out).1 (by simp)).trans HU.out
  have hf2 := head_free (k := 1) hh2
  have hcw : W2.cell? ⟨q, 1, none⟩ = some vT := hHeld
  refine last_L rfl (by kernel_rfl) (by kernel_rfl) (fun Q hQ => ?_)
  go_simp
  refine hQ.out _ _ ?_
  clear hQ Q hHeld
  go_wp2
  go_ret
  have O4 : W2.ownsRow U.heap.size 9 1 (.slice d2 (A.length + C.length) e2) (A.length + C.length) (A.map txV ++ C.map txV) := by
    have := O3.out
    simp only [List.length_map, Nat.zero_add, List.nil_append] at this
    exact this
  have hUs : U.heap.size = V.heap.size := by rw [← hU]; rfl
  have hqU : q < U.heap.size := (Array.getElem?_eq_some_iff.1 HU.out).1
  have hBU : B ≤ U.heap.size := by rw [hUs]; exact Nat.le_trans HB.out GV.out.size
  have gq := setCell_g W2 q 1 (.slice d2 (A.length + C.length) e2)
  have gU : V.grownBy W2 none := grown_trans (by rw [← hU]; exact drew_g V) G3.out
  have nW : W2.ownsRow B 9 1 vN2 (A.length + C.length) (A.map nmV ++ C.map nmV) := NV.out.kept gU (none_or _)
  have hoff : vN2.ownBlock ≠ some q := fun e => by
    obtain ⟨cc, hcc⟩ := row_type NV.out e
    rw [HV.out] at hcc
    cases hcc
  refine ⟨rfl, vN2, _, ⟨head_set1 hh2, ?_, ?_, ?_⟩, ?_⟩
  · simpa using nW.kept gq (.inr hoff)
  · simpa using row_down (O4.kept gq (.inr (fun e => by have := (O4.lt q e).1; omega))) hBU
  · cases hb : vN2.ownBlock with
    | none => exact .inl rfl
    | some kk =>
      refine .inr (fun e => ?_)
      have h1 := (NV.out.lt kk hb).2
      have h2 := (O4.lt kk e.symm).1
      omega
  · exact GV.out.andThen (grown_then gU gq) (fun j hj => .inr hj)
end Go.Proofs.YtaekljpijnkjoaaDoor.St
