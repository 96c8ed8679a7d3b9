/-
  The document's own Put of a file that is not there yet.
-/
import Derived.Test.YtaekljpijnkjoaaDoorRf5
namespace Go.Proofs.YtaekljpijnkjoaaDoor.St
open Go.RowKit Go.Maps Go.Proofs.YtaekljpijnkjoaaDoor.Tx
set_option linter.unusedVariables false
set_option linter.unusedSimpArgs false
set_option maxRecDepth 100000

theorem fin1 {w U W3 : World} {B q : Nat} {vN vT v : Value} {l A C : List Pr} {n : List UInt8} (r : Rs U B q vN vT l) (hg : U.grownBy W3 none) (ho : W3.ownsRow U.heap.size 9 1 v (A.length + 1 + C.length) (A.map nmV ++ (.string (bs n) :: C.map nmV))) (hs : U.heap.size = w.heap.size) (hw : w.grownBy U none) (hB : B ≤ w.heap.size) (hl : l.length = A.length + C.length) (t : List UInt8) :
    ∃ vN2, Hid ((W3.setCell ⟨q, 0, none⟩ v).heap[q]? = some (.cells #[vN2, vT] 28 (0, 0)) ∧ (W3.setCell ⟨q, 0, none⟩ v).ownsRow B 9 1 vN2 (l.length + 1) ((A ++ (n, t) :: C).map nmV) ∧ (W3.setCell ⟨q, 0, none⟩ v).ownsRow B 9 1 vT l.length (l.map txV) ∧ w.grownBy (W3.setCell ⟨q, 0, none⟩ v) (some q)) := by
  have gq := setCell_g W3 q 0 v
  have hqU := r.lt
  have hoff : v.ownBlock ≠ some q := fun e => by have := (ho.lt q e).1; omega
  refine ⟨v, head_set0 (r.grown hg).head, ?_, (r.grown hg).tx.kept gq (.inr r.off1), grown_then (grown_trans hw hg) gq⟩
  have h1 := row_down (ho.kept gq (.inr hoff)) (show B ≤ U.heap.size by omega)
  rw [show A.length + 1 + C.length = l.length + 1 by omega] at h1
  rw [show (A ++ (n, t) :: C).map nmV = A.map nmV ++ (.string (bs n) :: C.map nmV) by simp [nmV]]
  exact h1
theorem fin2 {w V U W3 : World} {B q : Nat} {vN vT v : Value} {l A C : List Pr} {n t : List UInt8} (hh : V.heap[q]? = some (.cells #[vN, vT] 28 (0, 0))) (nV : V.ownsRow B 9 1 vN (l.length + 1) ((A ++ (n, t) :: C).map nmV)) (gV : w.grownBy V (some q)) (hVU : V.grownBy U none) (hs : U.heap.size = V.heap.size) (hg : U.grownBy W3 none)
    (ho : W3.ownsRow U.heap.size 9 1 v (A.length + 1 + C.length) (A.map txV ++ (.string (bs t) :: C.map txV))) (hB : B ≤ w.heap.size) (hl : l.length = A.length + C.length) :
    ∃ vN2 vT2, Hid (Rs (W3.setCell ⟨q, 1, none⟩ v) B q vN2 vT2 (A ++ (n, t) :: C) ∧ w.grownBy (W3.setCell ⟨q, 1, none⟩ v) (some q)) := by
  have gq := setCell_g W3 q 1 v
  have hqV := (Array.getElem?_eq_some_iff.1 hh).1
  have gW := grown_trans hVU hg
  have hh3 := (gW.block q hqV (by simp)).trans hh
  have hoff : v.ownBlock ≠ some q := fun e => by have := (ho.lt q e).1; omega
  have hoffN : vN.ownBlock ≠ some q := fun e => by
    obtain ⟨cc, hcc⟩ := row_type nV e
    rw [hh] at hcc
    cases hcc
  have hBU : B ≤ U.heap.size := by have := gV.size; omega
  have hll : (A ++ (n, t) :: C).length = l.length + 1 := by simp; omega
  refine ⟨vN, v, ⟨head_set1 hh3, ?_, ?_, ?_⟩, gV.andThen (grown_then gW gq) (fun j hj => .inr hj)⟩
  · rw [hll]
    exact (nV.kept gW (none_or _)).kept gq (.inr hoffN)
  · have h1 := row_down (ho.kept gq (.inr hoff)) hBU
    rw [hll]
    rw [show A.length + 1 + C.length = l.length + 1 by omega] at h1
    rw [show (A ++ (n, t) :: C).map txV = A.map txV ++ (.string (bs t) :: C.map txV) by simp [txV]]
    exact h1
  · cases hb : vN.ownBlock with
    | none => exact .inl rfl
    | some kk =>
      refine .inr (fun e => ?_)
      have h1 := (nV.lt kk hb).2
      have h2 := (ho.lt kk e.symm).1
      omega
set_option maxHeartbeats 16000000 in
theorem rput_new {w : World} {B q : Nat} {vN vT : Value} {l A C : List Pr} {n : List UInt8} (r : Rs w B q vN vT l) (c : Cut n l A C none) (hl : l.length < 64) (hm : n.length ≤ maxLen) (hn : nmB n = true) (t : List UInt8) (ht : t.length ≤ 131072) (hB : B ≤ w.heap.size) :
    Calls Tryd.prog 9 #[.pointer (some ⟨q, 0, none⟩), .string (bs n), .string (bs t)] w fun e w' => e = .returned (.int .i64 0) ∧ ∃ vN' vT', Rs w' B q vN' vT' (A ++ (n, t) :: C) ∧ w.grownBy w' (some q) := by
  have HP := hide (place_at r c (by omega))
  have HM := hide hm
  have hlen : l.length = A.length + C.length := by rw [c.is]; simp
  have hAC : A.length + C.length ≤ 64 := by omega
  have hnm : l.map nmV = A.map nmV ++ C.map nmV := by rw [c.is]; simp
  have htx : l.map txV = A.map txV ++ C.map txV := by rw [c.is]; simp
  have r1 := r.nm
  rw [hnm, hlen] at r1
  obtain ⟨a1, ha1, sa1⟩ := cut_ahead (xs := A.map nmV) (ys := C.map nmV) (by simpa using r1)
  obtain ⟨c1, hc1, sc1⟩ := cut_behind (xs := A.map nmV) (ys := C.map nmV) (by simpa using r1)
  have HT := hide (fun (W : World) (h : W.ownsRow B 9 1 vT l.length (l.map txV)) => cut_ahead (w := W) (B := B) (v := vT) (xs := A.map txV) (ys := C.map txV) (by rw [← htx]; simpa [hlen] using h))
  have HT' := hide (fun (W : World) (h : W.ownsRow B 9 1 vT l.length (l.map txV)) => cut_behind (w := W) (B := B) (v := vT) (xs := A.map txV) (ys := C.map txV) (by rw [← htx]; simpa [hlen] using h))
  obtain ⟨k, hk⟩ : ∃ k, A.length = k := ⟨_, rfl⟩
  simp only [List.length_map, hk] at ha1 hc1
  rw [hk] at HP
  obtain ⟨sn, sm, hvn⟩ := own_len r.nm
  have hlenN : ∀ (W : World) (ty : TypeId), (Builtin.len_ #[26] ty #[vN]).run Tryd.prog W = .ok (.int .i64 l.length) W := fun W ty => by
    rw [hvn]
    simp [Builtin.len_, run_underlying Tryd.underlying26, goInt, Result.andThen]
  have hl64 : ((l.length : Int) == 64) = false := by simp; omega
  have hc0 := r.c0
  have hz := bs_size t
  have htl : (t.length : Int) ≤ 131072 := by omega
  have HR := hide r
  have SA1 := hide sa1
  have SC1 := hide sc1
  have HB := hide hB
  have HAC := hide hAC
  have HK := hide hk
  have HL := hide hlen
  clear r c hnm htx r1 sa1 sc1 hlen hl hB hAC hk hvn hm ht
  go_enter Tryd.func9, Tryd.ntmps9
  go_upto_region 13 with (first | (go_at_call 21; refine (rname_any n _ HM.out).mono ?_; rw [hn]; rintro e w' ⟨rfl, h⟩; replace h := h.symm; subst h) | (go_at_call 24; refine HP.out.mono ?_; rintro e w' ⟨rfl, h⟩; replace h := h.symm; subst h))
  go_cut [] from 9 (fun wc => (∃ vN2, Hid (wc.heap[q]? = some (.cells #[vN2, vT] 28 (0, 0)) ∧ wc.ownsRow B 9 1 vN2 (l.length + 1) ((A ++ (n, t) :: C).map nmV) ∧ wc.ownsRow B 9 1 vT l.length (l.map txV) ∧ w.grownBy wc (some q))))
  case first =>
    refine wp_region_last (S := fun W => (W.cell? ⟨q, 0, none⟩ = some vN)) (last := 21) (by kernel_rfl) hc0 (fun hHeld => ?_)
    have SA := hide (SA1.out.grown (drew_g w))
    have SC := hide (SC1.out.grown (drew_g w))
    have HW := hide (HR.out.grown (drew_g w))
    generalize hU : w.drew = U at hHeld SA SC HW ⊢
    have SK := hide (fun (W : World) (hg : U.grownBy W none) => (HW.out.grown hg).c0)
    have HU := hide HW.out.head
    have HUS := hide (show U.heap.size = w.heap.size by rw [← hU]; rfl)
    have HWU := hide (show w.grownBy U none by rw [← hU]; exact drew_g w)
    ((refine wpAnyL_take (i := 0) (v := ?_) rfl (by kernel_rfl) (by kernel_rfl) (by kernel_rfl) (by kernel_rfl) (fun _ _ _ h => h) (Or.inl ⟨by rfl, ?_⟩) (by assumption) ?_; rotate_left 1; (focus (intro w hSw; (try dsimp only at hSw); go_simp; (try (with_reducible rfl)))); (try simp only [List.length_map, Nat.zero_add, List.length_cons, List.length_nil, Act.put, List.getElem_toArray, List.getElem_cons_zero, List.getElem_cons_succ, List.setIfInBounds_toArray, List.set_cons_zero, List.set_cons_succ])); (refine wpAnyL_take (i := 2) (v := ?_) rfl (by kernel_rfl) (by kernel_rfl) (by kernel_rfl) (by kernel_rfl) (fun _ _ _ h => h) (Or.inl ⟨by rfl, ?_⟩) (by assumption) ?_; rotate_left 1; (focus (intro w hSw; (try dsimp only at hSw); go_simp; (try (with_reducible rfl)))); (try simp only [List.length_map, Nat.zero_add, List.length_cons, List.length_nil, Act.put, List.getElem_toArray, List.getElem_cons_zero, List.getElem_cons_succ, List.setIfInBounds_toArray, List.set_cons_zero, List.set_cons_succ])); (refine wpAnyL_take (i := 3) (v := ?_) rfl (by kernel_rfl) (by kernel_rfl) (by kernel_rfl) (by kernel_rfl) (fun _ _ _ h => h) (Or.inl ⟨by rfl, ?_⟩) (by assumption) ?_; rotate_left 1; (focus (intro w hSw; (try dsimp only at hSw); go_simp; (try (with_reducible rfl)))); (try simp only [List.length_map, Nat.zero_add, List.length_cons, List.length_nil, Act.put, List.getElem_toArray, List.getElem_cons_zero, List.getElem_cons_succ, List.setIfInBounds_toArray, List.set_cons_zero, List.set_cons_succ])); (refine wpAnyL_take (i := 4) (v := ?_) rfl (by kernel_rfl) (by kernel_rfl) (by kernel_rfl) (by kernel_rfl) (fun _ _ _ h => h) (Or.inl ⟨by rfl, ?_⟩) (by assumption) ?_; rotate_left 1; (focus (intro w hSw; (try dsimp only at hSw); go_simp; (try (with_reducible rfl)))); (try simp only [List.length_map, Nat.zero_add, List.length_cons, List.length_nil, Act.put, List.getElem_toArray, List.getElem_cons_zero, List.getElem_cons_succ, List.setIfInBounds_toArray, List.set_cons_zero, List.set_cons_succ])); (refine wpAnyL_take (i := 5) (v := ?_) rfl (by kernel_rfl) (by kernel_rfl) (by kernel_rfl) (by kernel_rfl) (fun _ _ _ h => h) (Or.inl ⟨by rfl, ?_⟩) (by assumption) ?_; rotate_left 1; (focus (intro w hSw; (try dsimp only at hSw); go_simp; (try (with_reducible rfl)))); (try simp only [List.length_map, Nat.zero_add, List.length_cons, List.length_nil, Act.put, List.getElem_toArray, List.getElem_cons_zero, List.getElem_cons_succ, List.setIfInBounds_toArray, List.set_cons_zero, List.set_cons_succ])); (refine wpAnyL_take (i := 6) (v := ?_) rfl (by kernel_rfl) (by kernel_rfl) (by kernel_rfl) (by kernel_rfl) (fun _ _ _ h => h) (Or.inl ⟨by rfl, ?_⟩) (by assumption) ?_; rotate_left 1; (focus (intro w hSw; (try dsimp only at hSw); go_simp; (try (with_reducible rfl)))); (try simp only [List.length_map, Nat.zero_add, List.length_cons, List.length_nil, Act.put, List.getElem_toArray, List.getElem_cons_zero, List.getElem_cons_succ, List.setIfInBounds_toArray, List.set_cons_zero, List.set_cons_succ])); (refine wpAnyL_take (i := 7) (v := ?_) rfl (by kernel_rfl) (by kernel_rfl) (by kernel_rfl) (by kernel_rfl) (fun _ _ _ h => h) (Or.inl ⟨by rfl, ?_⟩) (by assumption) ?_; rotate_left 1; (focus (intro w hSw; (try dsimp only at hSw); go_simp; (try (with_reducible rfl)))); (try simp only [List.length_map, Nat.zero_add, List.length_cons, List.length_nil, Act.put, List.getElem_toArray, List.getElem_cons_zero, List.getElem_cons_succ, List.setIfInBounds_toArray, List.set_cons_zero, List.set_cons_succ])); (refine wpAnyL_take (i := 9) (v := ?_) rfl (by kernel_rfl) (by kernel_rfl) (by kernel_rfl) (by kernel_rfl) (fun _ _ _ h => h) (Or.inl ⟨by rfl, ?_⟩) (by assumption) ?_; rotate_left 1; (focus (intro w hSw; (try dsimp only at hSw); go_simp; (try (with_reducible rfl)))); (try simp only [List.length_map, Nat.zero_add, List.length_cons, List.length_nil, Act.put, List.getElem_toArray, List.getElem_cons_zero, List.getElem_cons_succ, List.setIfInBounds_toArray, List.set_cons_zero, List.set_cons_succ])); (refine wpAnyL_take (i := 12) (v := ?_) rfl (by kernel_rfl) (by kernel_rfl) (by kernel_rfl) (by kernel_rfl) (fun _ _ _ h => h) (Or.inl ⟨by rfl, ?_⟩) (by assumption) ?_; rotate_left 1; (focus (intro w hSw; (try dsimp only at hSw); go_simp; (try (with_reducible rfl)))); (try simp only [List.length_map, Nat.zero_add, List.length_cons, List.length_nil, Act.put, List.getElem_toArray, List.getElem_cons_zero, List.getElem_cons_succ, List.setIfInBounds_toArray, List.set_cons_zero, List.set_cons_succ])); (refine wpAnyL_take (i := 13) (v := ?_) rfl (by kernel_rfl) (by kernel_rfl) (by kernel_rfl) (by kernel_rfl) (fun _ _ _ h => h) (Or.inl ⟨by rfl, ?_⟩) (by assumption) ?_; rotate_left 1; (focus (intro w hSw; (try dsimp only at hSw); go_simp; (try (with_reducible rfl)))); (try simp only [List.length_map, Nat.zero_add, List.length_cons, List.length_nil, Act.put, List.getElem_toArray, List.getElem_cons_zero, List.getElem_cons_succ, List.setIfInBounds_toArray, List.set_cons_zero, List.set_cons_succ])); (refine wpAnyL_take (i := 14) (v := ?_) rfl (by kernel_rfl) (by kernel_rfl) (by kernel_rfl) (by kernel_rfl) (fun _ _ _ h => h) (Or.inl ⟨by rfl, ?_⟩) (by assumption) ?_; rotate_left 1; (focus (intro w hSw; (try dsimp only at hSw); go_simp; (try (with_reducible rfl)))); (try simp only [List.length_map, Nat.zero_add, List.length_cons, List.length_nil, Act.put, List.getElem_toArray, List.getElem_cons_zero, List.getElem_cons_succ, List.setIfInBounds_toArray, List.set_cons_zero, List.set_cons_succ])); (refine wpAnyL_take (i := 15) (v := ?_) rfl (by kernel_rfl) (by kernel_rfl) (by kernel_rfl) (by kernel_rfl) (fun _ _ _ h => h) (Or.inl ⟨by rfl, ?_⟩) (by assumption) ?_; rotate_left 1; (focus (intro w hSw; (try dsimp only at hSw); go_simp; (try (with_reducible rfl)))); (try simp only [List.length_map, Nat.zero_add, List.length_cons, List.length_nil, Act.put, List.getElem_toArray, List.getElem_cons_zero, List.getElem_cons_succ, List.setIfInBounds_toArray, List.set_cons_zero, List.set_cons_succ])); (refine wpAnyL_take (i := 16) (v := ?_) rfl (by kernel_rfl) (by kernel_rfl) (by kernel_rfl) (by kernel_rfl) (fun _ _ _ h => h) (Or.inl ⟨by rfl, ?_⟩) (by assumption) ?_; rotate_left 1; (focus (intro w hSw; (try dsimp only at hSw); go_simp; (try (with_reducible rfl)))); (try simp only [List.length_map, Nat.zero_add, List.length_cons, List.length_nil, Act.put, List.getElem_toArray, List.getElem_cons_zero, List.getElem_cons_succ, List.setIfInBounds_toArray, List.set_cons_zero, List.set_cons_succ])); (refine wpAnyL_take (i := 17) (v := ?_) rfl (by kernel_rfl) (by kernel_rfl) (by kernel_rfl) (by kernel_rfl) (fun _ _ _ h => h) (Or.inl ⟨by rfl, ?_⟩) (by assumption) ?_; rotate_left 1; (focus (intro w hSw; (try dsimp only at hSw); go_simp; (try (with_reducible rfl)))); (try simp only [List.length_map, Nat.zero_add, List.length_cons, List.length_nil, Act.put, List.getElem_toArray, List.getElem_cons_zero, List.getElem_cons_succ, List.setIfInBounds_toArray, List.set_cons_zero, List.set_cons_succ])))
    refine wpAnyL_ready (rs := [1, 10]) (by kernel_rfl) (by simp) (AllL.cons rfl (fun Q hQ => ?_) (AllL.cons rfl (fun Q hQ => ?_) AllL.nil))
    · go_simp
      refine hQ.out _ _ (.inr (SK.out _ (alloc_g _ _))) (fun _ => ?_)
      clear hQ Q
      have O1 := hide (empty_row U)
      have G1 := hide (alloc_g U (.cells #[] 9))
      (try simp only [List.length_map, Nat.zero_add, List.length_cons, List.length_nil, Act.put, List.getElem_toArray, List.getElem_cons_zero, List.getElem_cons_succ, List.setIfInBounds_toArray, List.set_cons_zero, List.set_cons_succ])
      refine wpAnyL_ready (rs := [8, 10]) (by kernel_rfl) (by simp) (AllL.cons rfl (fun Q hQ => ?_) (AllL.cons rfl (fun Q hQ => ?_) AllL.nil))
      · (rw [if_pos (by rfl)]; refine wp_app (.tmp 38) (.tmp 44) rfl U.heap.size (.slice (some ⟨U.heap.size, 0, none⟩) 0 0) 0 [] rfl O1.out a1 (A.map nmV) rfl (SA.out.grown G1.out) (nmV_one A) (by have := HAC.out; simp; omega) G1.out.size ?_; intro d1 e1 W1 o1 g1; simp only [List.length_map, Nat.zero_add, List.length_cons, List.length_nil, List.nil_append] at o1)
        have O2' := hide o1
        have G2' := hide (new_row G1.out O1.out g1)
        refine hQ.out _ _ (.inr (SK.out _ G2'.out)) (fun _ => ?_)
        clear hQ Q o1 g1 O1 G1
        (try simp only [List.length_map, Nat.zero_add, List.length_cons, List.length_nil, Act.put, List.getElem_toArray, List.getElem_cons_zero, List.getElem_cons_succ, List.setIfInBounds_toArray, List.set_cons_zero, List.set_cons_succ])
        refine turn_L (i := 10) rfl (by kernel_rfl) (fun Q hQ => ?_)
        go_simp
        refine hQ.out _ _ (SK.out _ (grown_trans G2'.out (alloc_g _ _))) (fun _ => ?_)
        clear hQ Q
        have O2 := hide (O2'.out.alloc (.cells #[.string (bs n)] 9))
        have G2 := hide (grown_trans G2'.out (alloc_g _ (.cells #[.string (bs n)] 9)))
        have XS := hide (heap_alloc_last W1 (.cells #[.string (bs n)] 9))
        clear O2' G2'
        (try simp only [List.length_map, Nat.zero_add, List.length_cons, List.length_nil, Act.put, List.getElem_toArray, List.getElem_cons_zero, List.getElem_cons_succ, List.setIfInBounds_toArray, List.set_cons_zero, List.set_cons_succ])
        (refine turn_L (i := 11) rfl (by kernel_rfl) (fun Q hQ => ?_); rw [if_pos (by rfl)]; refine wp_app (.tmp 45) (.tmp 47) rfl U.heap.size _ _ _ rfl O2.out _ [.string (bs n)] rfl (one_src XS.out) (by intro y hy; simp at hy; rw [hy]; rfl) (by have := HAC.out; simp; omega) G2.out.size ?_; intro d2 e2 W2 o2 g2; simp only [List.length_map, Nat.zero_add, List.length_cons, List.length_nil, List.nil_append] at o2; have O3 := hide o2; have G3 := hide (new_row G2.out O2.out g2); refine hQ.out _ _ (SK.out _ G3.out) (fun hHeld => ?_); clear hQ Q o2 g2 O2 G2 XS; (try simp only [List.length_map, Nat.zero_add, List.length_cons, List.length_nil, Act.put, List.getElem_toArray, List.getElem_cons_zero, List.getElem_cons_succ, List.setIfInBounds_toArray, List.set_cons_zero, List.set_cons_succ]); refine turn_L (i := 18) rfl (by kernel_rfl) (fun Q hQ => ?_); rw [if_pos (by rfl)]; refine wp_app (.tmp 48) (.tmp 54) rfl U.heap.size _ _ _ rfl O3.out c1 (C.map nmV) rfl (SC.out.grown G3.out) (nmV_one C) (by have := HAC.out; simp; omega) G3.out.size ?_; intro d3 e3 W3 o3 g3; simp only [List.length_map, Nat.zero_add, List.length_cons, List.length_nil, List.nil_append] at o3; have O4 := hide o3; have G4 := hide (new_row G3.out O3.out g3); refine hQ.out _ _ (SK.out _ G4.out) (fun hHeld => ?_); clear hQ Q o3 g3 O3 G3; (try simp only [List.length_map, Nat.zero_add, List.length_cons, List.length_nil, Act.put, List.getElem_toArray, List.getElem_cons_zero, List.getElem_cons_succ, List.setIfInBounds_toArray, List.set_cons_zero, List.set_cons_succ]); refine turn_L (i := 19) rfl (by kernel_rfl) (fun Q hQ => ?_); go_simp; refine hQ.out _ _ (SK.out _ G4.out) (fun hHeld => ?_); clear hQ Q; (try simp only [List.length_map, Nat.zero_add, List.length_cons, List.length_nil, Act.put, List.getElem_toArray, List.getElem_cons_zero, List.getElem_cons_succ, List.setIfInBounds_toArray, List.set_cons_zero, List.set_cons_succ]); (refine wpAnyL_take (i := 20) (v := ?_) rfl (by kernel_rfl) (by kernel_rfl) (by kernel_rfl) (by kernel_rfl) (fun _ _ _ h => h) (Or.inl ⟨by rfl, ?_⟩) (by assumption) ?_; rotate_left 1; (focus (intro w hSw; (try dsimp only at hSw); go_simp; (try (with_reducible rfl)))); (try simp only [List.length_map, Nat.zero_add, List.length_cons, List.length_nil, Act.put, List.getElem_toArray, List.getElem_cons_zero, List.getElem_cons_succ, List.setIfInBounds_toArray, List.set_cons_zero, List.set_cons_succ])); have hh2 : W3.heap[q]? = some (.cells #[vN, vT] 28 (0, 0)) := ((G4.out.block q (Array.getElem?_eq_some_iff.1 HU.out).1 (by simp)).trans HU.out); have hf2 := head_free (k := 0) hh2; have hcw := SK.out _ G4.out; refine last_L rfl (by kernel_rfl) (by kernel_rfl) (fun Q hQ => ?_); go_simp; refine hQ.out _ _ ?_; clear hQ Q hHeld; go_wp2; go_meet)
        case rel => exact fin1 HW.out G4.out (by simpa using O4.out) HUS.out HWU.out HB.out HL.out t
      · go_simp
        refine hQ.out _ _ (.inr (SK.out _ (grown_trans G1.out (alloc_g _ _)))) (fun _ => ?_)
        clear hQ Q
        have X0 := hide (show ((U.alloc (.cells #[] 9)).alloc (.cells #[.string (bs n)] 9)).heap[U.heap.size + 1]? = some (.cells #[.string (bs n)] 9) by simpa using heap_alloc_last (U.alloc (.cells #[] 9)) (.cells #[.string (bs n)] 9))
        have O0 := hide (O1.out.alloc (.cells #[.string (bs n)] 9))
        have G0 := hide (grown_trans G1.out (alloc_g _ (.cells #[.string (bs n)] 9)))
        clear O1 G1
        have O1 := O0
        have G1 := G0
        clear O0 G0
        (try simp only [List.length_map, Nat.zero_add, List.length_cons, List.length_nil, Act.put, List.getElem_toArray, List.getElem_cons_zero, List.getElem_cons_succ, List.setIfInBounds_toArray, List.set_cons_zero, List.set_cons_succ])
        refine turn_L (i := 8) rfl (by kernel_rfl) (fun Q hQ => ?_)
        (rw [if_pos (by rfl)]; refine wp_app (.tmp 38) (.tmp 44) rfl U.heap.size (.slice (some ⟨U.heap.size, 0, none⟩) 0 0) 0 [] rfl O1.out a1 (A.map nmV) rfl (SA.out.grown G1.out) (nmV_one A) (by have := HAC.out; simp; omega) G1.out.size ?_; intro d1 e1 W1 o1 g1; simp only [List.length_map, Nat.zero_add, List.length_cons, List.length_nil, List.nil_append] at o1)
        have XS := hide ((g1.block (U.heap.size + 1) (Array.getElem?_eq_some_iff.1 X0.out).1 (by simp [Value.ownBlock])).trans X0.out)
        have O2 := hide o1
        have G2 := hide (new_row G1.out O1.out g1)
        refine hQ.out _ _ (SK.out _ G2.out) (fun _ => ?_)
        clear hQ Q o1 g1 O1 G1 X0
        (try simp only [List.length_map, Nat.zero_add, List.length_cons, List.length_nil, Act.put, List.getElem_toArray, List.getElem_cons_zero, List.getElem_cons_succ, List.setIfInBounds_toArray, List.set_cons_zero, List.set_cons_succ])
        (refine turn_L (i := 11) rfl (by kernel_rfl) (fun Q hQ => ?_); rw [if_pos (by rfl)]; refine wp_app (.tmp 45) (.tmp 47) rfl U.heap.size _ _ _ rfl O2.out _ [.string (bs n)] rfl (one_src XS.out) (by intro y hy; simp at hy; rw [hy]; rfl) (by have := HAC.out; simp; omega) G2.out.size ?_; intro d2 e2 W2 o2 g2; simp only [List.length_map, Nat.zero_add, List.length_cons, List.length_nil, List.nil_append] at o2; have O3 := hide o2; have G3 := hide (new_row G2.out O2.out g2); refine hQ.out _ _ (SK.out _ G3.out) (fun hHeld => ?_); clear hQ Q o2 g2 O2 G2 XS; (try simp only [List.length_map, Nat.zero_add, List.length_cons, List.length_nil, Act.put, List.getElem_toArray, List.getElem_cons_zero, List.getElem_cons_succ, List.setIfInBounds_toArray, List.set_cons_zero, List.set_cons_succ]); refine turn_L (i := 18) rfl (by kernel_rfl) (fun Q hQ => ?_); rw [if_pos (by rfl)]; refine wp_app (.tmp 48) (.tmp 54) rfl U.heap.size _ _ _ rfl O3.out c1 (C.map nmV) rfl (SC.out.grown G3.out) (nmV_one C) (by have := HAC.out; simp; omega) G3.out.size ?_; intro d3 e3 W3 o3 g3; simp only [List.length_map, Nat.zero_add, List.length_cons, List.length_nil, List.nil_append] at o3; have O4 := hide o3; have G4 := hide (new_row G3.out O3.out g3); refine hQ.out _ _ (SK.out _ G4.out) (fun hHeld => ?_); clear hQ Q o3 g3 O3 G3; (try simp only [List.length_map, Nat.zero_add, List.length_cons, List.length_nil, Act.put, List.getElem_toArray, List.getElem_cons_zero, List.getElem_cons_succ, List.setIfInBounds_toArray, List.set_cons_zero, List.set_cons_succ]); refine turn_L (i := 19) rfl (by kernel_rfl) (fun Q hQ => ?_); go_simp; refine hQ.out _ _ (SK.out _ G4.out) (fun hHeld => ?_); clear hQ Q; (try simp only [List.length_map, Nat.zero_add, List.length_cons, List.length_nil, Act.put, List.getElem_toArray, List.getElem_cons_zero, List.getElem_cons_succ, List.setIfInBounds_toArray, List.set_cons_zero, List.set_cons_succ]); (refine wpAnyL_take (i := 20) (v := ?_) rfl (by kernel_rfl) (by kernel_rfl) (by kernel_rfl) (by kernel_rfl) (fun _ _ _ h => h) (Or.inl ⟨by rfl, ?_⟩) (by assumption) ?_; rotate_left 1; (focus (intro w hSw; (try dsimp only at hSw); go_simp; (try (with_reducible rfl)))); (try simp only [List.length_map, Nat.zero_add, List.length_cons, List.length_nil, Act.put, List.getElem_toArray, List.getElem_cons_zero, List.getElem_cons_succ, List.setIfInBounds_toArray, List.set_cons_zero, List.set_cons_succ])); have hh2 : W3.heap[q]? = some (.cells #[vN, vT] 28 (0, 0)) := ((G4.out.block q (Array.getElem?_eq_some_iff.1 HU.out).1 (by simp)).trans HU.out); have hf2 := head_free (k := 0) hh2; have hcw := SK.out _ G4.out; refine last_L rfl (by kernel_rfl) (by kernel_rfl) (fun Q hQ => ?_); go_simp; refine hQ.out _ _ ?_; clear hQ Q hHeld; go_wp2; go_meet)
        case rel => exact fin1 HW.out G4.out (by simpa using O4.out) HUS.out HWU.out HB.out HL.out t
    · go_simp
      refine hQ.out _ _ (.inr (SK.out _ (alloc_g _ _))) (fun _ => ?_)
      clear hQ Q
      have X00 := hide (heap_alloc_last U (.cells #[.string (bs n)] 9))
      (try simp only [List.length_map, Nat.zero_add, List.length_cons, List.length_nil, Act.put, List.getElem_toArray, List.getElem_cons_zero, List.getElem_cons_succ, List.setIfInBounds_toArray, List.set_cons_zero, List.set_cons_succ])
      refine turn_L (i := 1) rfl (by kernel_rfl) (fun Q hQ => ?_)
      go_simp
      refine hQ.out _ _ (SK.out _ (grown_trans (alloc_g _ _) (alloc_g _ _))) (fun _ => ?_)
      clear hQ Q
      have X0 := hide ((heap_alloc_old (U.alloc (.cells #[.string (bs n)] 9)) (.cells #[] 9) (by simp)).trans X00.out)
      have O1 := hide (show ((U.alloc (.cells #[.string (bs n)] 9)).alloc (.cells #[] 9)).ownsRow U.heap.size 9 1 (.slice (some ⟨U.heap.size + 1, 0, none⟩) 0 0) 0 [] by simpa using row_down (empty_row (U.alloc (.cells #[.string (bs n)] 9))) (show U.heap.size ≤ (U.alloc (.cells #[.string (bs n)] 9)).heap.size by simp))
      have G1 := hide (grown_trans (alloc_g U (.cells #[.string (bs n)] 9)) (alloc_g _ (.cells #[] 9)))
      clear X00
      (try simp only [List.length_map, Nat.zero_add, List.length_cons, List.length_nil, Act.put, List.getElem_toArray, List.getElem_cons_zero, List.getElem_cons_succ, List.setIfInBounds_toArray, List.set_cons_zero, List.set_cons_succ])
      refine turn_L (i := 8) rfl (by kernel_rfl) (fun Q hQ => ?_)
      (rw [if_pos (by rfl)]; refine wp_app (.tmp 38) (.tmp 44) rfl U.heap.size (.slice (some ⟨U.heap.size + 1, 0, none⟩) 0 0) 0 [] rfl O1.out a1 (A.map nmV) rfl (SA.out.grown G1.out) (nmV_one A) (by have := HAC.out; simp; omega) G1.out.size ?_; intro d1 e1 W1 o1 g1; simp only [List.length_map, Nat.zero_add, List.length_cons, List.length_nil, List.nil_append] at o1)
      have XS := hide ((g1.block U.heap.size (Array.getElem?_eq_some_iff.1 X0.out).1 (by simp [Value.ownBlock])).trans X0.out)
      have O2 := hide o1
      have G2 := hide (new_row G1.out O1.out g1)
      refine hQ.out _ _ (SK.out _ G2.out) (fun _ => ?_)
      clear hQ Q o1 g1 O1 G1 X0
      (try simp only [List.length_map, Nat.zero_add, List.length_cons, List.length_nil, Act.put, List.getElem_toArray, List.getElem_cons_zero, List.getElem_cons_succ, List.setIfInBounds_toArray, List.set_cons_zero, List.set_cons_succ])
      (refine turn_L (i := 11) rfl (by kernel_rfl) (fun Q hQ => ?_); rw [if_pos (by rfl)]; refine wp_app (.tmp 45) (.tmp 47) rfl U.heap.size _ _ _ rfl O2.out _ [.string (bs n)] rfl (one_src XS.out) (by intro y hy; simp at hy; rw [hy]; rfl) (by have := HAC.out; simp; omega) G2.out.size ?_; intro d2 e2 W2 o2 g2; simp only [List.length_map, Nat.zero_add, List.length_cons, List.length_nil, List.nil_append] at o2; have O3 := hide o2; have G3 := hide (new_row G2.out O2.out g2); refine hQ.out _ _ (SK.out _ G3.out) (fun hHeld => ?_); clear hQ Q o2 g2 O2 G2 XS; (try simp only [List.length_map, Nat.zero_add, List.length_cons, List.length_nil, Act.put, List.getElem_toArray, List.getElem_cons_zero, List.getElem_cons_succ, List.setIfInBounds_toArray, List.set_cons_zero, List.set_cons_succ]); refine turn_L (i := 18) rfl (by kernel_rfl) (fun Q hQ => ?_); rw [if_pos (by rfl)]; refine wp_app (.tmp 48) (.tmp 54) rfl U.heap.size _ _ _ rfl O3.out c1 (C.map nmV) rfl (SC.out.grown G3.out) (nmV_one C) (by have := HAC.out; simp; omega) G3.out.size ?_; intro d3 e3 W3 o3 g3; simp only [List.length_map, Nat.zero_add, List.length_cons, List.length_nil, List.nil_append] at o3; have O4 := hide o3; have G4 := hide (new_row G3.out O3.out g3); refine hQ.out _ _ (SK.out _ G4.out) (fun hHeld => ?_); clear hQ Q o3 g3 O3 G3; (try simp only [List.length_map, Nat.zero_add, List.length_cons, List.length_nil, Act.put, List.getElem_toArray, List.getElem_cons_zero, List.getElem_cons_succ, List.setIfInBounds_toArray, List.set_cons_zero, List.set_cons_succ]); refine turn_L (i := 19) rfl (by kernel_rfl) (fun Q hQ => ?_); go_simp; refine hQ.out _ _ (SK.out _ G4.out) (fun hHeld => ?_); clear hQ Q; (try simp only [List.length_map, Nat.zero_add, List.length_cons, List.length_nil, Act.put, List.getElem_toArray, List.getElem_cons_zero, List.getElem_cons_succ, List.setIfInBounds_toArray, List.set_cons_zero, List.set_cons_succ]); (refine wpAnyL_take (i := 20) (v := ?_) rfl (by kernel_rfl) (by kernel_rfl) (by kernel_rfl) (by kernel_rfl) (fun _ _ _ h => h) (Or.inl ⟨by rfl, ?_⟩) (by assumption) ?_; rotate_left 1; (focus (intro w hSw; (try dsimp only at hSw); go_simp; (try (with_reducible rfl)))); (try simp only [List.length_map, Nat.zero_add, List.length_cons, List.length_nil, Act.put, List.getElem_toArray, List.getElem_cons_zero, List.getElem_cons_succ, List.setIfInBounds_toArray, List.set_cons_zero, List.set_cons_succ])); have hh2 : W3.heap[q]? = some (.cells #[vN, vT] 28 (0, 0)) := ((G4.out.block q (Array.getElem?_eq_some_iff.1 HU.out).1 (by simp)).trans HU.out); have hf2 := head_free (k := 0) hh2; have hcw := SK.out _ G4.out; refine last_L rfl (by kernel_rfl) (by kernel_rfl) (fun Q hQ => ?_); go_simp; refine hQ.out _ _ ?_; clear hQ Q hHeld; go_wp2; go_meet)
      case rel => exact fin1 HW.out G4.out (by simpa using O4.out) HUS.out HWU.out HB.out HL.out t
  case rest =>
    obtain ⟨vN2, HV⟩ := hcut
    obtain ⟨a2, ha2, sa2⟩ := HT.out wc HV.out.2.2.1
    obtain ⟨c2, hc2, sc2⟩ := HT'.out wc HV.out.2.2.1
    simp only [List.length_map, HK.out] at ha2 hc2
    have SA2 := hide sa2
    have SC2 := hide sc2
    have hc1 : wc.cell? ⟨q, 1, none⟩ = some vT := by rw [cell_of_row _ _ _ _ _ _ HV.out.1]; rfl
    clear sa2 sc2 HT HT' ha1 hc0 SA1 SC1
    go_upto_region 14 with fail
    go_cut [] from 9 (fun wc => (∃ vN2 vT2, Hid (Rs wc B q vN2 vT2 (A ++ (n, t) :: C) ∧ w.grownBy wc (some q))))
    case first =>
      refine wp_region_last (S := fun W => (W.cell? ⟨q, 1, none⟩ = some vT)) (last := 21) (by kernel_rfl) hc1 (fun hHeld => ?_)
      have SA := hide (SA2.out.grown (drew_g wc))
      have SC := hide (SC2.out.grown (drew_g wc))
      have HU := hide (show wc.drew.heap[q]? = some (.cells #[vN2, vT] 28 (0, 0)) from HV.out.1)
      have HUV := hide (drew_g wc)
      have HUS := hide (show wc.drew.heap.size = wc.heap.size from rfl)
      generalize hU : wc.drew = U at hHeld SA SC HU HUV HUS ⊢
      have SK := hide (fun (W : World) (hg : U.grownBy W none) => show W.cell? ⟨q, 1, none⟩ = some vT by
        rw [cell_of_row _ _ _ _ _ _ ((hg.block q (Array.getElem?_eq_some_iff.1 HU.out).1 (by simp)).trans HU.out)]; rfl)
      ((refine wpAnyL_take (i := 0) (v := ?_) rfl (by kernel_rfl) (by kernel_rfl) (by kernel_rfl) (by kernel_rfl) (fun _ _ _ h => h) (Or.inl ⟨by rfl, ?_⟩) (by assumption) ?_; rotate_left 1; (focus (intro w hSw; (try dsimp only at hSw); go_simp; (try (with_reducible rfl)))); (try simp only [List.length_map, Nat.zero_add, List.length_cons, List.length_nil, Act.put, List.getElem_toArray, List.getElem_cons_zero, List.getElem_cons_succ, List.setIfInBounds_toArray, List.set_cons_zero, List.set_cons_succ])); (refine wpAnyL_take (i := 2) (v := ?_) rfl (by kernel_rfl) (by kernel_rfl) (by kernel_rfl) (by kernel_rfl) (fun _ _ _ h => h) (Or.inl ⟨by rfl, ?_⟩) (by assumption) ?_; rotate_left 1; (focus (intro w hSw; (try dsimp only at hSw); go_simp; (try (with_reducible rfl)))); (try simp only [List.length_map, Nat.zero_add, List.length_cons, List.length_nil, Act.put, List.getElem_toArray, List.getElem_cons_zero, List.getElem_cons_succ, List.setIfInBounds_toArray, List.set_cons_zero, List.set_cons_succ])); (refine wpAnyL_take (i := 3) (v := ?_) rfl (by kernel_rfl) (by kernel_rfl) (by kernel_rfl) (by kernel_rfl) (fun _ _ _ h => h) (Or.inl ⟨by rfl, ?_⟩) (by assumption) ?_; rotate_left 1; (focus (intro w hSw; (try dsimp only at hSw); go_simp; (try (with_reducible rfl)))); (try simp only [List.length_map, Nat.zero_add, List.length_cons, List.length_nil, Act.put, List.getElem_toArray, List.getElem_cons_zero, List.getElem_cons_succ, List.setIfInBounds_toArray, List.set_cons_zero, List.set_cons_succ])); (refine wpAnyL_take (i := 4) (v := ?_) rfl (by kernel_rfl) (by kernel_rfl) (by kernel_rfl) (by kernel_rfl) (fun _ _ _ h => h) (Or.inl ⟨by rfl, ?_⟩) (by assumption) ?_; rotate_left 1; (focus (intro w hSw; (try dsimp only at hSw); go_simp; (try (with_reducible rfl)))); (try simp only [List.length_map, Nat.zero_add, List.length_cons, List.length_nil, Act.put, List.getElem_toArray, List.getElem_cons_zero, List.getElem_cons_succ, List.setIfInBounds_toArray, List.set_cons_zero, List.set_cons_succ])); (refine wpAnyL_take (i := 5) (v := ?_) rfl (by kernel_rfl) (by kernel_rfl) (by kernel_rfl) (by kernel_rfl) (fun _ _ _ h => h) (Or.inl ⟨by rfl, ?_⟩) (by assumption) ?_; rotate_left 1; (focus (intro w hSw; (try dsimp only at hSw); go_simp; (try (with_reducible rfl)))); (try simp only [List.length_map, Nat.zero_add, List.length_cons, List.length_nil, Act.put, List.getElem_toArray, List.getElem_cons_zero, List.getElem_cons_succ, List.setIfInBounds_toArray, List.set_cons_zero, List.set_cons_succ])); (refine wpAnyL_take (i := 6) (v := ?_) rfl (by kernel_rfl) (by kernel_rfl) (by kernel_rfl) (by kernel_rfl) (fun _ _ _ h => h) (Or.inl ⟨by rfl, ?_⟩) (by assumption) ?_; rotate_left 1; (focus (intro w hSw; (try dsimp only at hSw); go_simp; (try (with_reducible rfl)))); (try simp only [List.length_map, Nat.zero_add, List.length_cons, List.length_nil, Act.put, List.getElem_toArray, List.getElem_cons_zero, List.getElem_cons_succ, List.setIfInBounds_toArray, List.set_cons_zero, List.set_cons_succ])); (refine wpAnyL_take (i := 7) (v := ?_) rfl (by kernel_rfl) (by kernel_rfl) (by kernel_rfl) (by kernel_rfl) (fun _ _ _ h => h) (Or.inl ⟨by rfl, ?_⟩) (by assumption) ?_; rotate_left 1; (focus (intro w hSw; (try dsimp only at hSw); go_simp; (try (with_reducible rfl)))); (try simp only [List.length_map, Nat.zero_add, List.length_cons, List.length_nil, Act.put, List.getElem_toArray, List.getElem_cons_zero, List.getElem_cons_succ, List.setIfInBounds_toArray, List.set_cons_zero, List.set_cons_succ])); (refine wpAnyL_take (i := 9) (v := ?_) rfl (by kernel_rfl) (by kernel_rfl) (by kernel_rfl) (by kernel_rfl) (fun _ _ _ h => h) (Or.inl ⟨by rfl, ?_⟩) (by assumption) ?_; rotate_left 1; (focus (intro w hSw; (try dsimp only at hSw); go_simp; (try (with_reducible rfl)))); (try simp only [List.length_map, Nat.zero_add, List.length_cons, List.length_nil, Act.put, List.getElem_toArray, List.getElem_cons_zero, List.getElem_cons_succ, List.setIfInBounds_toArray, List.set_cons_zero, List.set_cons_succ])); (refine wpAnyL_take (i := 12) (v := ?_) rfl (by kernel_rfl) (by kernel_rfl) (by kernel_rfl) (by kernel_rfl) (fun _ _ _ h => h) (Or.inl ⟨by rfl, ?_⟩) (by assumption) ?_; rotate_left 1; (focus (intro w hSw; (try dsimp only at hSw); go_simp; (try (with_reducible rfl)))); (try simp only [List.length_map, Nat.zero_add, List.length_cons, List.length_nil, Act.put, List.getElem_toArray, List.getElem_cons_zero, List.getElem_cons_succ, List.setIfInBounds_toArray, List.set_cons_zero, List.set_cons_succ])); (refine wpAnyL_take (i := 13) (v := ?_) rfl (by kernel_rfl) (by kernel_rfl) (by kernel_rfl) (by kernel_rfl) (fun _ _ _ h => h) (Or.inl ⟨by rfl, ?_⟩) (by assumption) ?_; rotate_left 1; (focus (intro w hSw; (try dsimp only at hSw); go_simp; (try (with_reducible rfl)))); (try simp only [List.length_map, Nat.zero_add, List.length_cons, List.length_nil, Act.put, List.getElem_toArray, List.getElem_cons_zero, List.getElem_cons_succ, List.setIfInBounds_toArray, List.set_cons_zero, List.set_cons_succ])); (refine wpAnyL_take (i := 14) (v := ?_) rfl (by kernel_rfl) (by kernel_rfl) (by kernel_rfl) (by kernel_rfl) (fun _ _ _ h => h) (Or.inl ⟨by rfl, ?_⟩) (by assumption) ?_; rotate_left 1; (focus (intro w hSw; (try dsimp only at hSw); go_simp; (try (with_reducible rfl)))); (try simp only [List.length_map, Nat.zero_add, List.length_cons, List.length_nil, Act.put, List.getElem_toArray, List.getElem_cons_zero, List.getElem_cons_succ, List.setIfInBounds_toArray, List.set_cons_zero, List.set_cons_succ])); (refine wpAnyL_take (i := 15) (v := ?_) rfl (by kernel_rfl) (by kernel_rfl) (by kernel_rfl) (by kernel_rfl) (fun _ _ _ h => h) (Or.inl ⟨by rfl, ?_⟩) (by assumption) ?_; rotate_left 1; (focus (intro w hSw; (try dsimp only at hSw); go_simp; (try (with_reducible rfl)))); (try simp only [List.length_map, Nat.zero_add, List.length_cons, List.length_nil, Act.put, List.getElem_toArray, List.getElem_cons_zero, List.getElem_cons_succ, List.setIfInBounds_toArray, List.set_cons_zero, List.set_cons_succ])); (refine wpAnyL_take (i := 16) (v := ?_) rfl (by kernel_rfl) (by kernel_rfl) (by kernel_rfl) (by kernel_rfl) (fun _ _ _ h => h) (Or.inl ⟨by rfl, ?_⟩) (by assumption) ?_; rotate_left 1; (focus (intro w hSw; (try dsimp only at hSw); go_simp; (try (with_reducible rfl)))); (try simp only [List.length_map, Nat.zero_add, List.length_cons, List.length_nil, Act.put, List.getElem_toArray, List.getElem_cons_zero, List.getElem_cons_succ, List.setIfInBounds_toArray, List.set_cons_zero, List.set_cons_succ])); (refine wpAnyL_take (i := 17) (v := ?_) rfl (by kernel_rfl) (by kernel_rfl) (by kernel_rfl) (by kernel_rfl) (fun _ _ _ h => h) (Or.inl ⟨by rfl, ?_⟩) (by assumption) ?_; rotate_left 1; (focus (intro w hSw; (try dsimp only at hSw); go_simp; (try (with_reducible rfl)))); (try simp only [List.length_map, Nat.zero_add, List.length_cons, List.length_nil, Act.put, List.getElem_toArray, List.getElem_cons_zero, List.getElem_cons_succ, List.setIfInBounds_toArray, List.set_cons_zero, List.set_cons_succ])))
      refine wpAnyL_ready (rs := [1, 10]) (by kernel_rfl) (by simp) (AllL.cons rfl (fun Q hQ => ?_) (AllL.cons rfl (fun Q hQ => ?_) AllL.nil))
      · go_simp
        refine hQ.out _ _ (.inr (SK.out _ (alloc_g _ _))) (fun _ => ?_)
        clear hQ Q
        have O1 := hide (empty_row U)
        have G1 := hide (alloc_g U (.cells #[] 9))
        (try simp only [List.length_map, Nat.zero_add, List.length_cons, List.length_nil, Act.put, List.getElem_toArray, List.getElem_cons_zero, List.getElem_cons_succ, List.setIfInBounds_toArray, List.set_cons_zero, List.set_cons_succ])
        refine wpAnyL_ready (rs := [8, 10]) (by kernel_rfl) (by simp) (AllL.cons rfl (fun Q hQ => ?_) (AllL.cons rfl (fun Q hQ => ?_) AllL.nil))
        · (rw [if_pos (by rfl)]; refine wp_app (.tmp 59) (.tmp 65) rfl U.heap.size (.slice (some ⟨U.heap.size, 0, none⟩) 0 0) 0 [] rfl O1.out a2 (A.map txV) rfl (SA.out.grown G1.out) (txV_one A) (by have := HAC.out; simp; omega) G1.out.size ?_; intro d1 e1 W1 o1 g1; simp only [List.length_map, Nat.zero_add, List.length_cons, List.length_nil, List.nil_append] at o1)
          have O2' := hide o1
          have G2' := hide (new_row G1.out O1.out g1)
          refine hQ.out _ _ (.inr (SK.out _ G2'.out)) (fun _ => ?_)
          clear hQ Q o1 g1 O1 G1
          (try simp only [List.length_map, Nat.zero_add, List.length_cons, List.length_nil, Act.put, List.getElem_toArray, List.getElem_cons_zero, List.getElem_cons_succ, List.setIfInBounds_toArray, List.set_cons_zero, List.set_cons_succ])
          refine turn_L (i := 10) rfl (by kernel_rfl) (fun Q hQ => ?_)
          go_simp
          refine hQ.out _ _ (SK.out _ (grown_trans G2'.out (alloc_g _ _))) (fun _ => ?_)
          clear hQ Q
          have O2 := hide (O2'.out.alloc (.cells #[.string (bs t)] 9))
          have G2 := hide (grown_trans G2'.out (alloc_g _ (.cells #[.string (bs t)] 9)))
          have XS := hide (heap_alloc_last W1 (.cells #[.string (bs t)] 9))
          clear O2' G2'
          (try simp only [List.length_map, Nat.zero_add, List.length_cons, List.length_nil, Act.put, List.getElem_toArray, List.getElem_cons_zero, List.getElem_cons_succ, List.setIfInBounds_toArray, List.set_cons_zero, List.set_cons_succ])
          (refine turn_L (i := 11) rfl (by kernel_rfl) (fun Q hQ => ?_); rw [if_pos (by rfl)]; refine wp_app (.tmp 66) (.tmp 68) rfl U.heap.size _ _ _ rfl O2.out _ [.string (bs t)] rfl (one_src XS.out) (by intro y hy; simp at hy; rw [hy]; rfl) (by have := HAC.out; simp; omega) G2.out.size ?_; intro d2 e2 W2 o2 g2; simp only [List.length_map, Nat.zero_add, List.length_cons, List.length_nil, List.nil_append] at o2; have O3 := hide o2; have G3 := hide (new_row G2.out O2.out g2); refine hQ.out _ _ (SK.out _ G3.out) (fun hHeld => ?_); clear hQ Q o2 g2 O2 G2 XS; (try simp only [List.length_map, Nat.zero_add, List.length_cons, List.length_nil, Act.put, List.getElem_toArray, List.getElem_cons_zero, List.getElem_cons_succ, List.setIfInBounds_toArray, List.set_cons_zero, List.set_cons_succ]); refine turn_L (i := 18) rfl (by kernel_rfl) (fun Q hQ => ?_); rw [if_pos (by rfl)]; refine wp_app (.tmp 69) (.tmp 75) rfl U.heap.size _ _ _ rfl O3.out c2 (C.map txV) rfl (SC.out.grown G3.out) (txV_one C) (by have := HAC.out; simp; omega) G3.out.size ?_; intro d3 e3 W3 o3 g3; simp only [List.length_map, Nat.zero_add, List.length_cons, List.length_nil, List.nil_append] at o3; have O4 := hide o3; have G4 := hide (new_row G3.out O3.out g3); refine hQ.out _ _ (SK.out _ G4.out) (fun hHeld => ?_); clear hQ Q o3 g3 O3 G3; (try simp only [List.length_map, Nat.zero_add, List.length_cons, List.length_nil, Act.put, List.getElem_toArray, List.getElem_cons_zero, List.getElem_cons_succ, List.setIfInBounds_toArray, List.set_cons_zero, List.set_cons_succ]); refine turn_L (i := 19) rfl (by kernel_rfl) (fun Q hQ => ?_); go_simp; refine hQ.out _ _ (SK.out _ G4.out) (fun hHeld => ?_); clear hQ Q; (try simp only [List.length_map, Nat.zero_add, List.length_cons, List.length_nil, Act.put, List.getElem_toArray, List.getElem_cons_zero, List.getElem_cons_succ, List.setIfInBounds_toArray, List.set_cons_zero, List.set_cons_succ]); (refine wpAnyL_take (i := 20) (v := ?_) rfl (by kernel_rfl) (by kernel_rfl) (by kernel_rfl) (by kernel_rfl) (fun _ _ _ h => h) (Or.inl ⟨by rfl, ?_⟩) (by assumption) ?_; rotate_left 1; (focus (intro w hSw; (try dsimp only at hSw); go_simp; (try (with_reducible rfl)))); (try simp only [List.length_map, Nat.zero_add, List.length_cons, List.length_nil, Act.put, List.getElem_toArray, List.getElem_cons_zero, List.getElem_cons_succ, List.setIfInBounds_toArray, List.set_cons_zero, List.set_cons_succ])); have hh2 : W3.heap[q]? = some (.cells #[vN2, vT] 28 (0, 0)) := ((G4.out.block q (Array.getElem?_eq_some_iff.1 HU.out).1 (by simp)).trans HU.out); have hf2 := head_free (k := 1) hh2; have hcw := SK.out _ G4.out; refine last_L rfl (by kernel_rfl) (by kernel_rfl) (fun Q hQ => ?_); go_simp; refine hQ.out _ _ ?_; clear hQ Q hHeld; go_wp2; go_meet)
          case rel => exact fin2 HV.out.1 HV.out.2.1 HV.out.2.2.2 HUV.out HUS.out G4.out (by simpa using O4.out) HB.out HL.out
        · go_simp
          refine hQ.out _ _ (.inr (SK.out _ (grown_trans G1.out (alloc_g _ _)))) (fun _ => ?_)
          clear hQ Q
          have X0 := hide (show ((U.alloc (.cells #[] 9)).alloc (.cells #[.string (bs t)] 9)).heap[U.heap.size + 1]? = some (.cells #[.string (bs t)] 9) by simpa using heap_alloc_last (U.alloc (.cells #[] 9)) (.cells #[.string (bs t)] 9))
          have O0 := hide (O1.out.alloc (.cells #[.string (bs t)] 9))
          have G0 := hide (grown_trans G1.out (alloc_g _ (.cells #[.string (bs t)] 9)))
          clear O1 G1
          have O1 := O0
          have G1 := G0
          clear O0 G0
          (try simp only [List.length_map, Nat.zero_add, List.length_cons, List.length_nil, Act.put, List.getElem_toArray, List.getElem_cons_zero, List.getElem_cons_succ, List.setIfInBounds_toArray, List.set_cons_zero, List.set_cons_succ])
          refine turn_L (i := 8) rfl (by kernel_rfl) (fun Q hQ => ?_)
          (rw [if_pos (by rfl)]; refine wp_app (.tmp 59) (.tmp 65) rfl U.heap.size (.slice (some ⟨U.heap.size, 0, none⟩) 0 0) 0 [] rfl O1.out a2 (A.map txV) rfl (SA.out.grown G1.out) (txV_one A) (by have := HAC.out; simp; omega) G1.out.size ?_; intro d1 e1 W1 o1 g1; simp only [List.length_map, Nat.zero_add, List.length_cons, List.length_nil, List.nil_append] at o1)
          have XS := hide ((g1.block (U.heap.size + 1) (Array.getElem?_eq_some_iff.1 X0.out).1 (by simp [Value.ownBlock])).trans X0.out)
          have O2 := hide o1
          have G2 := hide (new_row G1.out O1.out g1)
          refine hQ.out _ _ (SK.out _ G2.out) (fun _ => ?_)
          clear hQ Q o1 g1 O1 G1 X0
          (try simp only [List.length_map, Nat.zero_add, List.length_cons, List.length_nil, Act.put, List.getElem_toArray, List.getElem_cons_zero, List.getElem_cons_succ, List.setIfInBounds_toArray, List.set_cons_zero, List.set_cons_succ])
          (refine turn_L (i := 11) rfl (by kernel_rfl) (fun Q hQ => ?_); rw [if_pos (by rfl)]; refine wp_app (.tmp 66) (.tmp 68) rfl U.heap.size _ _ _ rfl O2.out _ [.string (bs t)] rfl (one_src XS.out) (by intro y hy; simp at hy; rw [hy]; rfl) (by have := HAC.out; simp; omega) G2.out.size ?_; intro d2 e2 W2 o2 g2; simp only [List.length_map, Nat.zero_add, List.length_cons, List.length_nil, List.nil_append] at o2; have O3 := hide o2; have G3 := hide (new_row G2.out O2.out g2); refine hQ.out _ _ (SK.out _ G3.out) (fun hHeld => ?_); clear hQ Q o2 g2 O2 G2 XS; (try simp only [List.length_map, Nat.zero_add, List.length_cons, List.length_nil, Act.put, List.getElem_toArray, List.getElem_cons_zero, List.getElem_cons_succ, List.setIfInBounds_toArray, List.set_cons_zero, List.set_cons_succ]); refine turn_L (i := 18) rfl (by kernel_rfl) (fun Q hQ => ?_); rw [if_pos (by rfl)]; refine wp_app (.tmp 69) (.tmp 75) rfl U.heap.size _ _ _ rfl O3.out c2 (C.map txV) rfl (SC.out.grown G3.out) (txV_one C) (by have := HAC.out; simp; omega) G3.out.size ?_; intro d3 e3 W3 o3 g3; simp only [List.length_map, Nat.zero_add, List.length_cons, List.length_nil, List.nil_append] at o3; have O4 := hide o3; have G4 := hide (new_row G3.out O3.out g3); refine hQ.out _ _ (SK.out _ G4.out) (fun hHeld => ?_); clear hQ Q o3 g3 O3 G3; (try simp only [List.length_map, Nat.zero_add, List.length_cons, List.length_nil, Act.put, List.getElem_toArray, List.getElem_cons_zero, List.getElem_cons_succ, List.setIfInBounds_toArray, List.set_cons_zero, List.set_cons_succ]); refine turn_L (i := 19) rfl (by kernel_rfl) (fun Q hQ => ?_); go_simp; refine hQ.out _ _ (SK.out _ G4.out) (fun hHeld => ?_); clear hQ Q; (try simp only [List.length_map, Nat.zero_add, List.length_cons, List.length_nil, Act.put, List.getElem_toArray, List.getElem_cons_zero, List.getElem_cons_succ, List.setIfInBounds_toArray, List.set_cons_zero, List.set_cons_succ]); (refine wpAnyL_take (i := 20) (v := ?_) rfl (by kernel_rfl) (by kernel_rfl) (by kernel_rfl) (by kernel_rfl) (fun _ _ _ h => h) (Or.inl ⟨by rfl, ?_⟩) (by assumption) ?_; rotate_left 1; (focus (intro w hSw; (try dsimp only at hSw); go_simp; (try (with_reducible rfl)))); (try simp only [List.length_map, Nat.zero_add, List.length_cons, List.length_nil, Act.put, List.getElem_toArray, List.getElem_cons_zero, List.getElem_cons_succ, List.setIfInBounds_toArray, List.set_cons_zero, List.set_cons_succ])); have hh2 : W3.heap[q]? = some (.cells #[vN2, vT] 28 (0, 0)) := ((G4.out.block q (Array.getElem?_eq_some_iff.1 HU.out).1 (by simp)).trans HU.out); have hf2 := head_free (k := 1) hh2; have hcw := SK.out _ G4.out; refine last_L rfl (by kernel_rfl) (by kernel_rfl) (fun Q hQ => ?_); go_simp; refine hQ.out _ _ ?_; clear hQ Q hHeld; go_wp2; go_meet)
          case rel => exact fin2 HV.out.1 HV.out.2.1 HV.out.2.2.2 HUV.out HUS.out G4.out (by simpa using O4.out) HB.out HL.out
      · go_simp
        refine hQ.out _ _ (.inr (SK.out _ (alloc_g _ _))) (fun _ => ?_)
        clear hQ Q
        have X00 := hide (heap_alloc_last U (.cells #[.string (bs t)] 9))
        (try simp only [List.length_map, Nat.zero_add, List.length_cons, List.length_nil, Act.put, List.getElem_toArray, List.getElem_cons_zero, List.getElem_cons_succ, List.setIfInBounds_toArray, List.set_cons_zero, List.set_cons_succ])
        refine turn_L (i := 1) rfl (by kernel_rfl) (fun Q hQ => ?_)
        go_simp
        refine hQ.out _ _ (SK.out _ (grown_trans (alloc_g _ _) (alloc_g _ _))) (fun _ => ?_)
        clear hQ Q
        have X0 := hide ((heap_alloc_old (U.alloc (.cells #[.string (bs t)] 9)) (.cells #[] 9) (by simp)).trans X00.out)
        have O1 := hide (show ((U.alloc (.cells #[.string (bs t)] 9)).alloc (.cells #[] 9)).ownsRow U.heap.size 9 1 (.slice (some ⟨U.heap.size + 1, 0, none⟩) 0 0) 0 [] by simpa using row_down (empty_row (U.alloc (.cells #[.string (bs t)] 9))) (show U.heap.size ≤ (U.alloc (.cells #[.string (bs t)] 9)).heap.size by simp))
        have G1 := hide (grown_trans (alloc_g U (.cells #[.string (bs t)] 9)) (alloc_g _ (.cells #[] 9)))
        clear X00
        (try simp only [List.length_map, Nat.zero_add, List.length_cons, List.length_nil, Act.put, List.getElem_toArray, List.getElem_cons_zero, List.getElem_cons_succ, List.setIfInBounds_toArray, List.set_cons_zero, List.set_cons_succ])
        refine turn_L (i := 8) rfl (by kernel_rfl) (fun Q hQ => ?_)
        (rw [if_pos (by rfl)]; refine wp_app (.tmp 59) (.tmp 65) rfl U.heap.size (.slice (some ⟨U.heap.size + 1, 0, none⟩) 0 0) 0 [] rfl O1.out a2 (A.map txV) rfl (SA.out.grown G1.out) (txV_one A) (by have := HAC.out; simp; omega) G1.out.size ?_; intro d1 e1 W1 o1 g1; simp only [List.length_map, Nat.zero_add, List.length_cons, List.length_nil, List.nil_append] at o1)
        have XS := hide ((g1.block U.heap.size (Array.getElem?_eq_some_iff.1 X0.out).1 (by simp [Value.ownBlock])).trans X0.out)
        have O2 := hide o1
        have G2 := hide (new_row G1.out O1.out g1)
        refine hQ.out _ _ (SK.out _ G2.out) (fun _ => ?_)
        clear hQ Q o1 g1 O1 G1 X0
        (try simp only [List.length_map, Nat.zero_add, List.length_cons, List.length_nil, Act.put, List.getElem_toArray, List.getElem_cons_zero, List.getElem_cons_succ, List.setIfInBounds_toArray, List.set_cons_zero, List.set_cons_succ])
        (refine turn_L (i := 11) rfl (by kernel_rfl) (fun Q hQ => ?_); rw [if_pos (by rfl)]; refine wp_app (.tmp 66) (.tmp 68) rfl U.heap.size _ _ _ rfl O2.out _ [.string (bs t)] rfl (one_src XS.out) (by intro y hy; simp at hy; rw [hy]; rfl) (by have := HAC.out; simp; omega) G2.out.size ?_; intro d2 e2 W2 o2 g2; simp only [List.length_map, Nat.zero_add, List.length_cons, List.length_nil, List.nil_append] at o2; have O3 := hide o2; have G3 := hide (new_row G2.out O2.out g2); refine hQ.out _ _ (SK.out _ G3.out) (fun hHeld => ?_); clear hQ Q o2 g2 O2 G2 XS; (try simp only [List.length_map, Nat.zero_add, List.length_cons, List.length_nil, Act.put, List.getElem_toArray, List.getElem_cons_zero, List.getElem_cons_succ, List.setIfInBounds_toArray, List.set_cons_zero, List.set_cons_succ]); refine turn_L (i := 18) rfl (by kernel_rfl) (fun Q hQ => ?_); rw [if_pos (by rfl)]; refine wp_app (.tmp 69) (.tmp 75) rfl U.heap.size _ _ _ rfl O3.out c2 (C.map txV) rfl (SC.out.grown G3.out) (txV_one C) (by have := HAC.out; simp; omega) G3.out.size ?_; intro d3 e3 W3 o3 g3; simp only [List.length_map, Nat.zero_add, List.length_cons, List.length_nil, List.nil_append] at o3; have O4 := hide o3; have G4 := hide (new_row G3.out O3.out g3); refine hQ.out _ _ (SK.out _ G4.out) (fun hHeld => ?_); clear hQ Q o3 g3 O3 G3; (try simp only [List.length_map, Nat.zero_add, List.length_cons, List.length_nil, Act.put, List.getElem_toArray, List.getElem_cons_zero, List.getElem_cons_succ, List.setIfInBounds_toArray, List.set_cons_zero, List.set_cons_succ]); refine turn_L (i := 19) rfl (by kernel_rfl) (fun Q hQ => ?_); go_simp; refine hQ.out _ _ (SK.out _ G4.out) (fun hHeld => ?_); clear hQ Q; (try simp only [List.length_map, Nat.zero_add, List.length_cons, List.length_nil, Act.put, List.getElem_toArray, List.getElem_cons_zero, List.getElem_cons_succ, List.setIfInBounds_toArray, List.set_cons_zero, List.set_cons_succ]); (refine wpAnyL_take (i := 20) (v := ?_) rfl (by kernel_rfl) (by kernel_rfl) (by kernel_rfl) (by kernel_rfl) (fun _ _ _ h => h) (Or.inl ⟨by rfl, ?_⟩) (by assumption) ?_; rotate_left 1; (focus (intro w hSw; (try dsimp only at hSw); go_simp; (try (with_reducible rfl)))); (try simp only [List.length_map, Nat.zero_add, List.length_cons, List.length_nil, Act.put, List.getElem_toArray, List.getElem_cons_zero, List.getElem_cons_succ, List.setIfInBounds_toArray, List.set_cons_zero, List.set_cons_succ])); have hh2 : W3.heap[q]? = some (.cells #[vN2, vT] 28 (0, 0)) := ((G4.out.block q (Array.getElem?_eq_some_iff.1 HU.out).1 (by simp)).trans HU.out); have hf2 := head_free (k := 1) hh2; have hcw := SK.out _ G4.out; refine last_L rfl (by kernel_rfl) (by kernel_rfl) (fun Q hQ => ?_); go_simp; refine hQ.out _ _ ?_; clear hQ Q hHeld; go_wp2; go_meet)
        case rel => exact fin2 HV.out.1 HV.out.2.1 HV.out.2.2.2 HUV.out HUS.out G4.out (by simpa using O4.out) HB.out HL.out
    case rest =>
      obtain ⟨vN3, vT3, HF⟩ := hcut
      go_wp2
      go_ret
      exact ⟨rfl, vN3, vT3, HF.out.1, HF.out.2⟩
end Go.Proofs.YtaekljpijnkjoaaDoor.St
