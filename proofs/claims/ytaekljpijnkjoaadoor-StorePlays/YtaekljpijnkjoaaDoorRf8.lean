/-
  The document's own Fork.
-/
import Derived.Test.YtaekljpijnkjoaaDoorRf7
import Derived.Maps.AppendAt
namespace Go.Proofs.YtaekljpijnkjoaaDoor.St
open Go.RowKit Go.Maps Go.Proofs.YtaekljpijnkjoaaDoor.Tx
set_option linter.unusedVariables false
set_option linter.unusedSimpArgs false
set_option maxRecDepth 100000

/- As wp_app, and where the new slice lies. -/
theorem wp_app_at {o : Oper} {a : Act} {w : World} {K : Act → World → Prop} {Q : Exit → Act → World → Prop} (s x : Operand) (ho : o.op = .call { callee := .builtin .append, args := #[s, x], argTypes := #[26, 26] })
    (M : Nat) (v : Value) (n : Nat) (xs : List Value) (hs : a.eval s = v) (hown : w.ownsRow M 9 1 v n xs) (u : Value) (ys : List Value) (hx : a.eval x = u) (hsrc : Srs w u ys) (h1 : ∀ y ∈ ys, y.oneCell' = true)
    (hle : n + ys.length ≤ 1000) (hM : M ≤ w.heap.size)
    (h0 : ∀ d c w', w'.ownsRow M 9 1 (.slice d (n + ys.length) c) (n + ys.length) (xs ++ ys) → w.grownBy w' v.ownBlock → ((Value.slice d (n + ys.length) c).ownBlock = v.ownBlock ∨ (Value.slice d (n + ys.length) c).ownBlock = some w.heap.size) → K (a.put o.dst (.slice d (n + ys.length) c)) w') : o.wp Tryd.prog a w K Q := by
  have h : ∀ v' w', w'.ownsRow M 9 1 v' (n + ys.length) (xs ++ ys) → w.grownBy w' v.ownBlock → (v'.ownBlock = v.ownBlock ∨ v'.ownBlock = some w.heap.size) → K (a.put o.dst v') w' := fun v' w' h2 h3 h4 => by
    rcases h2.2 with ⟨hv, hz⟩ | ⟨g, cap, cur, hv, _⟩
    · have e : v' = .slice none (n + ys.length) 0 := by rw [hv, hz]
      rw [e] at h2 h4 ⊢
      exact h0 _ _ _ h2 h3 h4
    · rw [hv] at h2 h4 ⊢
      exact h0 _ _ _ h2 h3 h4
  obtain ⟨i0, hi, hz0, hz1, hz2⟩ := info_parts info_str
  rcases hsrc with ⟨rfl, rfl⟩ | ⟨g, off, c, rfl, hc⟩
  · have hrun := run_append_owned_none (P := Tryd.prog) (w := w) M 26 o.type 9 i0 1 Tryd.underlying26 hi v n xs hown
    unfold Oper.wp
    simp [execOp, ho, resolve, invoke, builtin, hs, hx, hrun, Result.andThen]
    have := h v w (by simpa using hown) ⟨rfl, rfl, rfl, Nat.le_refl _, fun _ _ _ => rfl⟩ (.inl rfl)
    exact this
  · obtain ⟨v', w', hr, h2, h3, _, h5⟩ := run_append_own_at (P := Tryd.prog) w M 26 o.type 9 i0 (.string ⟨#[]⟩) 1 16 Tryd.underlying26 hi hz0 hz1 hz2 rfl (by decide) v n xs hown ⟨g, off, none⟩ ys.length c ys (by omega) (fun j y hy => by rw [add_at]; exact hc j y hy) h1 (by unfold maxLen; omega) (by omega) hM
    unfold Oper.wp execOp
    simp only [ho, resolve, invoke, builtin, Sem.run_bind, Sem.run_pure, Result.andThen_ok, List.map_toArray, List.map_cons, List.map_nil, hs, hx, hr]
    exact h v' w' h2 h3 h5
theorem fin3 {w U W : World} {l : List Pr} {v1 v2 : Value} (hw : w.grownBy U none) (hs : U.heap.size = w.heap.size) (hg : U.grownBy W none) (h1 : W.ownsRow U.heap.size 9 1 v1 l.length (l.map nmV)) (h2 : W.ownsRow U.heap.size 9 1 v2 l.length (l.map txV)) (hne : v1.ownBlock ≠ v2.ownBlock) :
    ∃ q2 vN2 vT2, Value.pointer (some ⟨W.heap.size, 0, none⟩) = .pointer (some ⟨q2, 0, none⟩) ∧ Hid (Rs (W.alloc (.cells #[v1, v2] 28)) w.heap.size q2 vN2 vT2 l ∧ w.grownBy (W.alloc (.cells #[v1, v2] 28)) none ∧ w.heap.size ≤ q2) :=
  ⟨_, v1, v2, rfl, ⟨heap_alloc_last _ _, by rw [← hs]; exact h1.alloc _, by rw [← hs]; exact h2.alloc _, .inr hne⟩, grown_trans (grown_trans hw hg) (alloc_g _ _), by have := hg.size; omega⟩
theorem rfork_nil (w : World) : Calls Tryd.prog 16 #[.pointer none] w fun e w' => e = .returned (.pointer none) ∧ w' = w := by
  go_enter Tryd.func16, Tryd.ntmps16
  go_wp2
  go_ret
  exact ⟨rfl, rfl⟩
set_option maxHeartbeats 16000000 in
theorem rfork_at {w : World} {B q : Nat} {vN vT : Value} {l : List Pr} (r : Rs w B q vN vT l) (hl : l.length ≤ 64) :
    Calls Tryd.prog 16 #[.pointer (some ⟨q, 0, none⟩)] w fun e w' => ∃ q2 vN2 vT2, e = .returned (.pointer (some ⟨q2, 0, none⟩)) ∧ Rs w' w.heap.size q2 vN2 vT2 l ∧ w.grownBy w' none ∧ w.heap.size ≤ q2 := by
  have hc0 := r.c0
  have hc1 := r.c1
  have SN1 := hide (own_src r.nm)
  have ST1 := hide (own_src r.tx)
  have HR := hide r
  have HL := hide hl
  clear r hl
  go_enter Tryd.func16, Tryd.ntmps16
  go_upto_region 3 with fail
  go_cut [2] from 3 (fun s2 wc => (∃ q2 vN2 vT2, s2 = .pointer (some ⟨q2, 0, none⟩) ∧ Hid (Rs wc w.heap.size q2 vN2 vT2 l ∧ w.grownBy wc none ∧ w.heap.size ≤ q2)))
  case first =>
    refine wp_region_last (S := fun W => (W.cell? ⟨q, 0, none⟩ = some vN ∧ W.cell? ⟨q, 1, none⟩ = some vT)) (last := 14) (by kernel_rfl) ⟨hc0, hc1⟩ (fun hHeld => ?_)
    have SN := hide (SN1.out.grown (drew_g w))
    have ST := hide (ST1.out.grown (drew_g w))
    have HW := hide (HR.out.grown (drew_g w))
    generalize hU : w.drew = U at hHeld SN ST HW ⊢
    have SK := hide (fun (W : World) (hg : U.grownBy W none) => And.intro (HW.out.grown hg).c0 (HW.out.grown hg).c1)
    have HUS := hide (show U.heap.size = w.heap.size by rw [← hU]; rfl)
    have HWU := hide (show w.grownBy U none by rw [← hU]; exact drew_g w)
    (refine wpAnyL_take (i := 1) (v := ?_) rfl (by kernel_rfl) (by kernel_rfl) (by kernel_rfl) (by kernel_rfl) (fun _ _ _ h => h) (Or.inl ⟨by rfl, ?_⟩) (by assumption) ?_; rotate_left 1; (focus (intro w hSw; (try dsimp only at hSw); go_simp; (try (with_reducible rfl)))); (try simp only [List.length_map, Nat.zero_add, List.length_cons, List.length_nil, Act.put, List.getElem_toArray, List.getElem_cons_zero, List.getElem_cons_succ, List.setIfInBounds_toArray, List.set_cons_zero, List.set_cons_succ]))
    (refine wpAnyL_take (i := 2) (v := ?_) rfl (by kernel_rfl) (by kernel_rfl) (by kernel_rfl) (by kernel_rfl) (fun _ _ _ h => h) (Or.inl ⟨by rfl, ?_⟩) (by assumption) ?_; rotate_left 1; (focus (intro w hSw; (try dsimp only at hSw); go_simp; (try (with_reducible rfl)))); (try simp only [List.length_map, Nat.zero_add, List.length_cons, List.length_nil, Act.put, List.getElem_toArray, List.getElem_cons_zero, List.getElem_cons_succ, List.setIfInBounds_toArray, List.set_cons_zero, List.set_cons_succ]))
    (refine wpAnyL_take (i := 3) (v := ?_) rfl (by kernel_rfl) (by kernel_rfl) (by kernel_rfl) (by kernel_rfl) (fun _ _ _ h => h) (Or.inl ⟨by rfl, ?_⟩) (by assumption) ?_; rotate_left 1; (focus (intro w hSw; (try dsimp only at hSw); go_simp; (try (with_reducible rfl)))); (try simp only [List.length_map, Nat.zero_add, List.length_cons, List.length_nil, Act.put, List.getElem_toArray, List.getElem_cons_zero, List.getElem_cons_succ, List.setIfInBounds_toArray, List.set_cons_zero, List.set_cons_succ]))
    (refine wpAnyL_take (i := 4) (v := ?_) rfl (by kernel_rfl) (by kernel_rfl) (by kernel_rfl) (by kernel_rfl) (fun _ _ _ h => h) (Or.inl ⟨by rfl, ?_⟩) (by assumption) ?_; rotate_left 1; (focus (intro w hSw; (try dsimp only at hSw); go_simp; (try (with_reducible rfl)))); (try simp only [List.length_map, Nat.zero_add, List.length_cons, List.length_nil, Act.put, List.getElem_toArray, List.getElem_cons_zero, List.getElem_cons_succ, List.setIfInBounds_toArray, List.set_cons_zero, List.set_cons_succ]))
    (refine wpAnyL_take (i := 7) (v := ?_) rfl (by kernel_rfl) (by kernel_rfl) (by kernel_rfl) (by kernel_rfl) (fun _ _ _ h => h) (Or.inl ⟨by rfl, ?_⟩) (by assumption) ?_; rotate_left 1; (focus (intro w hSw; (try dsimp only at hSw); go_simp; (try (with_reducible rfl)))); (try simp only [List.length_map, Nat.zero_add, List.length_cons, List.length_nil, Act.put, List.getElem_toArray, List.getElem_cons_zero, List.getElem_cons_succ, List.setIfInBounds_toArray, List.set_cons_zero, List.set_cons_succ]))
    (refine wpAnyL_take (i := 8) (v := ?_) rfl (by kernel_rfl) (by kernel_rfl) (by kernel_rfl) (by kernel_rfl) (fun _ _ _ h => h) (Or.inl ⟨by rfl, ?_⟩) (by assumption) ?_; rotate_left 1; (focus (intro w hSw; (try dsimp only at hSw); go_simp; (try (with_reducible rfl)))); (try simp only [List.length_map, Nat.zero_add, List.length_cons, List.length_nil, Act.put, List.getElem_toArray, List.getElem_cons_zero, List.getElem_cons_succ, List.setIfInBounds_toArray, List.set_cons_zero, List.set_cons_succ]))
    (refine wpAnyL_take (i := 9) (v := ?_) rfl (by kernel_rfl) (by kernel_rfl) (by kernel_rfl) (by kernel_rfl) (fun _ _ _ h => h) (Or.inl ⟨by rfl, ?_⟩) (by assumption) ?_; rotate_left 1; (focus (intro w hSw; (try dsimp only at hSw); go_simp; (try (with_reducible rfl)))); (try simp only [List.length_map, Nat.zero_add, List.length_cons, List.length_nil, Act.put, List.getElem_toArray, List.getElem_cons_zero, List.getElem_cons_succ, List.setIfInBounds_toArray, List.set_cons_zero, List.set_cons_succ]))
    (refine wpAnyL_take (i := 10) (v := ?_) rfl (by kernel_rfl) (by kernel_rfl) (by kernel_rfl) (by kernel_rfl) (fun _ _ _ h => h) (Or.inl ⟨by rfl, ?_⟩) (by assumption) ?_; rotate_left 1; (focus (intro w hSw; (try dsimp only at hSw); go_simp; (try (with_reducible rfl)))); (try simp only [List.length_map, Nat.zero_add, List.length_cons, List.length_nil, Act.put, List.getElem_toArray, List.getElem_cons_zero, List.getElem_cons_succ, List.setIfInBounds_toArray, List.set_cons_zero, List.set_cons_succ]))
    refine wpAnyL_ready (rs := [0, 6]) (by kernel_rfl) (by simp) (AllL.cons rfl (fun Q hQ => ?_) (AllL.cons rfl (fun Q hQ => ?_) AllL.nil))
    · go_simp
      refine hQ.out _ _ (.inr (SK.out _ (alloc_g _ _))) (fun _ => ?_)
      clear hQ Q
      have O1 := hide (empty_row U)
      have G1 := hide (alloc_g U (.cells #[] 9))
      (try simp only [List.length_map, Nat.zero_add, List.length_cons, List.length_nil, Act.put, List.getElem_toArray, List.getElem_cons_zero, List.getElem_cons_succ, List.setIfInBounds_toArray, List.set_cons_zero, List.set_cons_succ])
      refine wpAnyL_ready (rs := [5, 6]) (by kernel_rfl) (by simp) (AllL.cons rfl (fun Q hQ => ?_) (AllL.cons rfl (fun Q hQ => ?_) AllL.nil))
      · rw [if_pos (by rfl)]; refine wp_app_at (.tmp 5) (.tmp 9) rfl U.heap.size (.slice (some ⟨U.heap.size, 0, none⟩) 0 0) 0 [] rfl O1.out vN (l.map nmV) rfl (SN.out.grown G1.out) (nmV_one l) (by have := HL.out; simp; omega) G1.out.size ?_; intro d1 e1 W1 o1 g1 t1; simp only [List.length_map, Nat.zero_add, List.nil_append] at o1 t1
        have O2 := hide o1
        have G2' := hide (new_row G1.out O1.out g1)
        refine hQ.out _ _ (.inr (SK.out _ G2'.out)) (fun _ => ?_)
        clear hQ Q o1 g1 t1 O1 G1
        (try simp only [List.length_map, Nat.zero_add, List.length_cons, List.length_nil, Act.put, List.getElem_toArray, List.getElem_cons_zero, List.getElem_cons_succ, List.setIfInBounds_toArray, List.set_cons_zero, List.set_cons_succ])
        refine turn_L (i := 6) rfl (by kernel_rfl) (fun Q hQ => ?_)
        go_simp
        refine hQ.out _ _ (SK.out _ (grown_trans G2'.out (alloc_g _ _))) (fun _ => ?_)
        clear hQ Q
        have ON := hide (O2.out.alloc (.cells #[] 9))
        have OT := hide (row_down (empty_row W1) G2'.out.size)
        have NE := hide (show (Value.slice d1 l.length e1).ownBlock ≠ some W1.heap.size from fun e => by have := (O2.out.lt _ e).2; omega)
        have G2 := hide (grown_trans G2'.out (alloc_g _ (.cells #[] 9)))
        clear O2 G2'
        (try simp only [List.length_map, Nat.zero_add, List.length_cons, List.length_nil, Act.put, List.getElem_toArray, List.getElem_cons_zero, List.getElem_cons_succ, List.setIfInBounds_toArray, List.set_cons_zero, List.set_cons_succ])
        refine turn_L (i := 11) rfl (by kernel_rfl) (fun Q hQ => ?_)
        rw [if_pos (by rfl)]
        refine wp_app_at (.tmp 11) (.tmp 15) rfl U.heap.size (.slice (some ⟨W1.heap.size, 0, none⟩) 0 0) 0 [] rfl OT.out vT (l.map txV) rfl (ST.out.grown G2.out) (txV_one l) (by have := HL.out; simp; omega) G2.out.size ?_
        intro d2 e2 W2 o2 g2 t2
        simp only [List.length_map, Nat.zero_add, List.nil_append] at o2 t2
        have O3 := hide o2
        have G3 := hide (new_row G2.out OT.out g2)
        have N3 := hide (ON.out.kept g2 (.inr (fun e => NE.out e)))
        have NE3 := hide (show (Value.slice d1 l.length e1).ownBlock ≠ (Value.slice d2 l.length e2).ownBlock from fun e => by
          rcases t2 with h | h
          · exact NE.out (e.trans h)
          · have := (ON.out.lt _ (e.trans h)).2
            omega)
        refine hQ.out _ _ (SK.out _ G3.out) (fun hHeld => ?_)
        clear hQ Q o2 g2 t2 ON OT NE G2
        (try simp only [List.length_map, Nat.zero_add, List.length_cons, List.length_nil, Act.put, List.getElem_toArray, List.getElem_cons_zero, List.getElem_cons_succ, List.setIfInBounds_toArray, List.set_cons_zero, List.set_cons_succ])
        (refine wpAnyL_take (i := 12) (v := ?_) rfl (by kernel_rfl) (by kernel_rfl) (by kernel_rfl) (by kernel_rfl) (fun _ _ _ h => h) (Or.inl ⟨by rfl, ?_⟩) (by assumption) ?_; rotate_left 1; (focus (intro w hSw; (try dsimp only at hSw); go_simp; (try (with_reducible rfl)))); (try simp only [List.length_map, Nat.zero_add, List.length_cons, List.length_nil, Act.put, List.getElem_toArray, List.getElem_cons_zero, List.getElem_cons_succ, List.setIfInBounds_toArray, List.set_cons_zero, List.set_cons_succ]))
        refine turn_L (i := 13) rfl (by kernel_rfl) (fun Q hQ => ?_)
        go_simp
        refine hQ.out _ _ (SK.out _ (grown_trans G3.out (alloc_g _ _))) (fun hHeld => ?_)
        clear hQ Q
        (try simp only [List.length_map, Nat.zero_add, List.length_cons, List.length_nil, Act.put, List.getElem_toArray, List.getElem_cons_zero, List.getElem_cons_succ, List.setIfInBounds_toArray, List.set_cons_zero, List.set_cons_succ])
        refine last_L rfl (by kernel_rfl) (by kernel_rfl) (fun Q hQ => ?_)
        go_simp
        refine hQ.out _ _ ?_
        clear hQ Q hHeld
        go_wp2
        go_meet
        case rel => exact fin3 HWU.out HUS.out G3.out N3.out O3.out NE3.out
      · go_simp
        refine hQ.out _ _ (.inr (SK.out _ (grown_trans G1.out (alloc_g _ _)))) (fun _ => ?_)
        clear hQ Q
        have OT0 := hide (show ((U.alloc (.cells #[] 9)).alloc (.cells #[] 9)).ownsRow U.heap.size 9 1 (.slice (some ⟨U.heap.size + 1, 0, none⟩) 0 0) 0 [] by simpa using row_down (empty_row (U.alloc (.cells #[] 9))) (show U.heap.size ≤ (U.alloc (.cells #[] 9)).heap.size by simp))
        have O0 := hide (O1.out.alloc (.cells #[] 9))
        have G0 := hide (grown_trans G1.out (alloc_g _ (.cells #[] 9)))
        clear O1 G1
        have O1 := O0
        have G1 := G0
        clear O0 G0
        (try simp only [List.length_map, Nat.zero_add, List.length_cons, List.length_nil, Act.put, List.getElem_toArray, List.getElem_cons_zero, List.getElem_cons_succ, List.setIfInBounds_toArray, List.set_cons_zero, List.set_cons_succ])
        refine turn_L (i := 5) rfl (by kernel_rfl) (fun Q hQ => ?_)
        rw [if_pos (by rfl)]; refine wp_app_at (.tmp 5) (.tmp 9) rfl U.heap.size (.slice (some ⟨U.heap.size, 0, none⟩) 0 0) 0 [] rfl O1.out vN (l.map nmV) rfl (SN.out.grown G1.out) (nmV_one l) (by have := HL.out; simp; omega) G1.out.size ?_; intro d1 e1 W1 o1 g1 t1; simp only [List.length_map, Nat.zero_add, List.nil_append] at o1 t1
        have OT := hide (OT0.out.kept g1 (.inr (by simp [Value.ownBlock])))
        have NE := hide (show (Value.slice d1 l.length e1).ownBlock ≠ some (U.heap.size + 1) from fun e => by
          rcases t1 with h | h
          · rw [e] at h; simp [Value.ownBlock] at h
          · rw [e] at h; simp at h)
        have ON := hide o1
        have G2 := hide (new_row G1.out O1.out g1)
        refine hQ.out _ _ (SK.out _ G2.out) (fun _ => ?_)
        clear hQ Q o1 g1 t1 O1 G1 OT0
        (try simp only [List.length_map, Nat.zero_add, List.length_cons, List.length_nil, Act.put, List.getElem_toArray, List.getElem_cons_zero, List.getElem_cons_succ, List.setIfInBounds_toArray, List.set_cons_zero, List.set_cons_succ])
        refine turn_L (i := 11) rfl (by kernel_rfl) (fun Q hQ => ?_)
        rw [if_pos (by rfl)]
        refine wp_app_at (.tmp 11) (.tmp 15) rfl U.heap.size (.slice (some ⟨U.heap.size + 1, 0, none⟩) 0 0) 0 [] rfl OT.out vT (l.map txV) rfl (ST.out.grown G2.out) (txV_one l) (by have := HL.out; simp; omega) G2.out.size ?_
        intro d2 e2 W2 o2 g2 t2
        simp only [List.length_map, Nat.zero_add, List.nil_append] at o2 t2
        have O3 := hide o2
        have G3 := hide (new_row G2.out OT.out g2)
        have N3 := hide (ON.out.kept g2 (.inr (fun e => NE.out e)))
        have NE3 := hide (show (Value.slice d1 l.length e1).ownBlock ≠ (Value.slice d2 l.length e2).ownBlock from fun e => by
          rcases t2 with h | h
          · exact NE.out (e.trans h)
          · have := (ON.out.lt _ (e.trans h)).2
            omega)
        refine hQ.out _ _ (SK.out _ G3.out) (fun hHeld => ?_)
        clear hQ Q o2 g2 t2 ON OT NE G2
        (try simp only [List.length_map, Nat.zero_add, List.length_cons, List.length_nil, Act.put, List.getElem_toArray, List.getElem_cons_zero, List.getElem_cons_succ, List.setIfInBounds_toArray, List.set_cons_zero, List.set_cons_succ])
        (refine wpAnyL_take (i := 12) (v := ?_) rfl (by kernel_rfl) (by kernel_rfl) (by kernel_rfl) (by kernel_rfl) (fun _ _ _ h => h) (Or.inl ⟨by rfl, ?_⟩) (by assumption) ?_; rotate_left 1; (focus (intro w hSw; (try dsimp only at hSw); go_simp; (try (with_reducible rfl)))); (try simp only [List.length_map, Nat.zero_add, List.length_cons, List.length_nil, Act.put, List.getElem_toArray, List.getElem_cons_zero, List.getElem_cons_succ, List.setIfInBounds_toArray, List.set_cons_zero, List.set_cons_succ]))
        refine turn_L (i := 13) rfl (by kernel_rfl) (fun Q hQ => ?_)
        go_simp
        refine hQ.out _ _ (SK.out _ (grown_trans G3.out (alloc_g _ _))) (fun hHeld => ?_)
        clear hQ Q
        (try simp only [List.length_map, Nat.zero_add, List.length_cons, List.length_nil, Act.put, List.getElem_toArray, List.getElem_cons_zero, List.getElem_cons_succ, List.setIfInBounds_toArray, List.set_cons_zero, List.set_cons_succ])
        refine last_L rfl (by kernel_rfl) (by kernel_rfl) (fun Q hQ => ?_)
        go_simp
        refine hQ.out _ _ ?_
        clear hQ Q hHeld
        go_wp2
        go_meet
        case rel => exact fin3 HWU.out HUS.out G3.out N3.out O3.out NE3.out
    · go_simp
      refine hQ.out _ _ (.inr (SK.out _ (alloc_g _ _))) (fun _ => ?_)
      clear hQ Q
      have OT00 := hide (empty_row U)
      (try simp only [List.length_map, Nat.zero_add, List.length_cons, List.length_nil, Act.put, List.getElem_toArray, List.getElem_cons_zero, List.getElem_cons_succ, List.setIfInBounds_toArray, List.set_cons_zero, List.set_cons_succ])
      refine turn_L (i := 0) rfl (by kernel_rfl) (fun Q hQ => ?_)
      go_simp
      refine hQ.out _ _ (SK.out _ (grown_trans (alloc_g _ _) (alloc_g _ _))) (fun _ => ?_)
      clear hQ Q
      have OT0 := hide (OT00.out.alloc (.cells #[] 9))
      have O1 := hide (show ((U.alloc (.cells #[] 9)).alloc (.cells #[] 9)).ownsRow U.heap.size 9 1 (.slice (some ⟨U.heap.size + 1, 0, none⟩) 0 0) 0 [] by simpa using row_down (empty_row (U.alloc (.cells #[] 9))) (show U.heap.size ≤ (U.alloc (.cells #[] 9)).heap.size by simp))
      have G1 := hide (grown_trans (alloc_g U (.cells #[] 9)) (alloc_g _ (.cells #[] 9)))
      clear OT00
      (try simp only [List.length_map, Nat.zero_add, List.length_cons, List.length_nil, Act.put, List.getElem_toArray, List.getElem_cons_zero, List.getElem_cons_succ, List.setIfInBounds_toArray, List.set_cons_zero, List.set_cons_succ])
      refine turn_L (i := 5) rfl (by kernel_rfl) (fun Q hQ => ?_)
      rw [if_pos (by rfl)]; refine wp_app_at (.tmp 5) (.tmp 9) rfl U.heap.size (.slice (some ⟨U.heap.size + 1, 0, none⟩) 0 0) 0 [] rfl O1.out vN (l.map nmV) rfl (SN.out.grown G1.out) (nmV_one l) (by have := HL.out; simp; omega) G1.out.size ?_; intro d1 e1 W1 o1 g1 t1; simp only [List.length_map, Nat.zero_add, List.nil_append] at o1 t1
      have OT := hide (OT0.out.kept g1 (.inr (by simp [Value.ownBlock])))
      have NE := hide (show (Value.slice d1 l.length e1).ownBlock ≠ some U.heap.size from fun e => by
        rcases t1 with h | h
        · rw [e] at h; simp [Value.ownBlock] at h
        · rw [e] at h; simp at h; omega)
      have ON := hide o1
      have G2 := hide (new_row G1.out O1.out g1)
      refine hQ.out _ _ (SK.out _ G2.out) (fun _ => ?_)
      clear hQ Q o1 g1 t1 O1 G1 OT0
      (try simp only [List.length_map, Nat.zero_add, List.length_cons, List.length_nil, Act.put, List.getElem_toArray, List.getElem_cons_zero, List.getElem_cons_succ, List.setIfInBounds_toArray, List.set_cons_zero, List.set_cons_succ])
      refine turn_L (i := 11) rfl (by kernel_rfl) (fun Q hQ => ?_)
      rw [if_pos (by rfl)]
      refine wp_app_at (.tmp 11) (.tmp 15) rfl U.heap.size (.slice (some ⟨U.heap.size, 0, none⟩) 0 0) 0 [] rfl OT.out vT (l.map txV) rfl (ST.out.grown G2.out) (txV_one l) (by have := HL.out; simp; omega) G2.out.size ?_
      intro d2 e2 W2 o2 g2 t2
      simp only [List.length_map, Nat.zero_add, List.nil_append] at o2 t2
      have O3 := hide o2
      have G3 := hide (new_row G2.out OT.out g2)
      have N3 := hide (ON.out.kept g2 (.inr (fun e => NE.out e)))
      have NE3 := hide (show (Value.slice d1 l.length e1).ownBlock ≠ (Value.slice d2 l.length e2).ownBlock from fun e => by
        rcases t2 with h | h
        · exact NE.out (e.trans h)
        · have := (ON.out.lt _ (e.trans h)).2
          omega)
      refine hQ.out _ _ (SK.out _ G3.out) (fun hHeld => ?_)
      clear hQ Q o2 g2 t2 ON OT NE G2
      (try simp only [List.length_map, Nat.zero_add, List.length_cons, List.length_nil, Act.put, List.getElem_toArray, List.getElem_cons_zero, List.getElem_cons_succ, List.setIfInBounds_toArray, List.set_cons_zero, List.set_cons_succ])
      (refine wpAnyL_take (i := 12) (v := ?_) rfl (by kernel_rfl) (by kernel_rfl) (by kernel_rfl) (by kernel_rfl) (fun _ _ _ h => h) (Or.inl ⟨by rfl, ?_⟩) (by assumption) ?_; rotate_left 1; (focus (intro w hSw; (try dsimp only at hSw); go_simp; (try (with_reducible rfl)))); (try simp only [List.length_map, Nat.zero_add, List.length_cons, List.length_nil, Act.put, List.getElem_toArray, List.getElem_cons_zero, List.getElem_cons_succ, List.setIfInBounds_toArray, List.set_cons_zero, List.set_cons_succ]))
      refine turn_L (i := 13) rfl (by kernel_rfl) (fun Q hQ => ?_)
      go_simp
      refine hQ.out _ _ (SK.out _ (grown_trans G3.out (alloc_g _ _))) (fun hHeld => ?_)
      clear hQ Q
      (try simp only [List.length_map, Nat.zero_add, List.length_cons, List.length_nil, Act.put, List.getElem_toArray, List.getElem_cons_zero, List.getElem_cons_succ, List.setIfInBounds_toArray, List.set_cons_zero, List.set_cons_succ])
      refine last_L rfl (by kernel_rfl) (by kernel_rfl) (fun Q hQ => ?_)
      go_simp
      refine hQ.out _ _ ?_
      clear hQ Q hHeld
      go_wp2
      go_meet
      case rel => exact fin3 HWU.out HUS.out G3.out N3.out O3.out NE3.out
  case rest =>
    obtain ⟨q2, vN2, vT2, rfl, HF⟩ := hcut
    go_wp2
    go_ret
    exact ⟨q2, vN2, vT2, rfl, HF.out.1, HF.out.2.1, HF.out.2.2⟩
end Go.Proofs.YtaekljpijnkjoaaDoor.St
