/-
  Package scope: Close, and what it needs of slices.Delete.
-/
import Derived.Test.YtmoekalagollhaaSc6
import Derived.ArgAppend
namespace Go.Proofs.Ytmoekalagollhaa.So
open Go.RowKit hiding Hid
open Go.Proofs.Ytmoekalagollhaa.Tx Go.Proofs.Ytmoekalagollhaa.Lx Go.Proofs.Ytmoekalagollhaa.Tr Go.Proofs.Ytmoekalagollhaa.Ty
set_option linter.unusedVariables false
set_option linter.unusedSimpArgs false
set_option maxRecDepth 100000

theorem zvTS (w : World) : (zeroValue 54).run Try.prog w = .ok (.slice none 0 0) w := by rw [Try.zeroValue54]
theorem run_app0 {o : Oper} {a : Act} {w : World} {s x : Operand} {g m c c2 : Nat} {A : Addr} (hi : (Try.prog.info? 54).map (·.size) = some 1) (hm : m ≤ c) (ho : o.op = .call { callee := .builtin .append, args := #[s, x], argTypes := #[72, 72] } := by rfl) (hs : a.eval s = .slice (some ⟨g, 0, none⟩) m c := by rfl) (hx : a.eval x = .slice (some A) 0 c2 := by rfl) : (execOp a.eval o).run Try.prog w = .ok (.value (.slice (some ⟨g, 0, none⟩) m c)) w := by
  cases hie : Try.prog.info? 54 with
  | none => simp [hie] at hi
  | some ie =>
    simp [hie] at hi
    have hr : (Builtin.append_ #[72, 72] o.type #[.slice (some ⟨g, 0, none⟩) m c, .slice (some A) 0 c2]).run Try.prog w = .ok (.slice (some ⟨g, 0, none⟩) m c) w := by
      have := run_append_room_cells (P := Try.prog) (w := w) 72 o.type 54 ie Try.underlying72 hie g 0 m c A 0 c2 [] (by simp) (by simp) (by simp) (by omega) (by simp) (by simp)
      rw [Nat.add_zero] at this
      rw [this]
      rfl
    unfold execOp
    simp only [ho, resolve, invoke, builtin, Sem.run_bind, Sem.run_pure, Result.andThen_ok, List.map_toArray, List.map_cons, List.map_nil, hs, hx, hr]
set_option maxHeartbeats 4000000 in
theorem delete_at {w0 w : World} {L : List Lc} {Rs : List Rw} {Fs : List Fk} {g N m c : Nat} {xs : List Value} (H : Cf w0 (fun _ => False) none L (⟨.slice (some ⟨g, 0, none⟩) N c, 54, 1, N, xs⟩ :: Rs) Fs w) (hN : N = m + 1) (hc : N ≤ c) (hc2 : c ≤ maxLen) : Calls Try.prog 57 #[.slice (some ⟨g, 0, none⟩) N c, .int .i64 (m : Int), .int .i64 (N : Int)] w (fun e w' => e = .returned (.slice (some ⟨g, 0, none⟩) m c) ∧ Cf w0 (fun _ => False) none L (⟨.slice (some ⟨g, 0, none⟩) m c, 54, 1, m, xs.take m⟩ :: Rs) Fs w') := by
  have hx1 : xs.length = N * 1 := (H.cx.row _ (.head _)).1
  have HXl := hide (show m + 1 ≤ xs.length by omega)
  have HI := hide (show (Try.prog.info? 54).map (·.size) = some 1 from by kernel_rfl)
  have HMc := hide (show m ≤ c by omega)
  have m0 : m < N := by omega
  have m1 : m ≤ N := by omega
  have m3 : m ≤ c := by omega
  have m4 : ¬ (c = m) := by omega
  have i0 : (m : Int) ≤ N := by omega
  have i1 : (N : Int) ≤ c := by omega
  have i2 : (c : Int) ≤ 9223372036854775807 := by unfold maxLen at hc2; omega
  have i3 : ((m : Int) == (N : Int)) = false := by simp; omega
  obtain ⟨A, hA⟩ : ∃ A : Addr, (if c = N then some (⟨g, 0, none⟩ : Addr) else some ⟨g, N, none⟩) = some A := by
    by_cases e : c = N
    · exact ⟨_, by rw [if_pos e]⟩
    · exact ⟨_, by rw [if_neg e]⟩
  have hNm : N - m = 1 := by omega
  have HC := hide H
  have HNm := hide hN
  clear H hN hx1 hc2
  go_enter Try.func57, Try.ntmps57
  go_upto_region 5 with (fail)
  replace HC := hide (HC.out.g (d1_g _)); refine wp_region_inN (fun W => True) [7] (Pn.of [(1, 0), (1, 1), (1, 2), (1, 3), (1, 4), (1, 5), (2, 6), (0, 7)] .nil) (by kernel_rfl) (by kernel_rfl) (by kernel_rfl) (by kernel_rfl) (fun _ _ d _ _ h => by cases d <;> exact h) trivial ?_
  (refine inN_read (v := ?_) rfl (Or.inl ⟨by rfl, ?_⟩) ?_; rotate_left 1; (focus (intro W hSW; clear hSW; go_simp; (try (with_reducible rfl)))); (try simp only [Act.put, List.getElem_toArray, List.getElem_cons_zero, List.getElem_cons_succ, List.setIfInBounds_toArray, List.set_cons_zero, List.set_cons_succ]))
  (refine inN_read (v := ?_) rfl (Or.inl ⟨by rfl, ?_⟩) ?_; rotate_left 1; (focus (intro W hSW; clear hSW; go_simp; (try (with_reducible rfl)))); (try simp only [Act.put, List.getElem_toArray, List.getElem_cons_zero, List.getElem_cons_succ, List.setIfInBounds_toArray, List.set_cons_zero, List.set_cons_succ]))
  (refine inN_read (v := ?_) rfl (Or.inl ⟨by rfl, ?_⟩) ?_; rotate_left 1; (focus (intro W hSW; clear hSW; go_simp; (try (with_reducible rfl)))); (try simp only [Act.put, List.getElem_toArray, List.getElem_cons_zero, List.getElem_cons_succ, List.setIfInBounds_toArray, List.set_cons_zero, List.set_cons_succ]))
  (refine inN_read (v := ?_) rfl (Or.inl ⟨by rfl, ?_⟩) ?_; rotate_left 1; (focus (intro W hSW; clear hSW; go_simp; (try (with_reducible rfl)))); (try simp only [Act.put, List.getElem_toArray, List.getElem_cons_zero, List.getElem_cons_succ, List.setIfInBounds_toArray, List.set_cons_zero, List.set_cons_succ]))
  (refine inN_read (v := ?_) rfl (Or.inl ⟨by rfl, ?_⟩) ?_; rotate_left 1; (focus (intro W hSW; clear hSW; go_simp; (try (with_reducible rfl)))); (try simp only [Act.put, List.getElem_toArray, List.getElem_cons_zero, List.getElem_cons_succ, List.setIfInBounds_toArray, List.set_cons_zero, List.set_cons_succ]))
  (refine inN_read (v := ?_) rfl (Or.inl ⟨by rfl, ?_⟩) ?_; rotate_left 1; (focus (intro W hSW; clear hSW; go_simp; (try (with_reducible rfl)))); (try simp only [Act.put, List.getElem_toArray, List.getElem_cons_zero, List.getElem_cons_succ, List.setIfInBounds_toArray, List.set_cons_zero, List.set_cons_succ]))
  refine inN_act rfl rfl (fun K' hK => ?_); refine op_val (v := .slice (some ⟨g, 0, none⟩) m c) (run_app0 HI.out HMc.out) ?_; refine hK _ _ (.inr id) ?_; clear hK K'; (try simp only [Act.put, List.getElem_toArray, List.getElem_cons_zero, List.getElem_cons_succ, List.setIfInBounds_toArray, List.set_cons_zero, List.set_cons_succ])
  (refine inN_pure (v := ?_) rfl (Or.inl ⟨by rfl, ?_⟩) ?_; rotate_left 1; (focus (intro W hSW; clear hSW; go_simp; (try (with_reducible rfl)))); (try simp only [Act.put, List.getElem_toArray, List.getElem_cons_zero, List.getElem_cons_succ, List.setIfInBounds_toArray, List.set_cons_zero, List.set_cons_succ]))
  refine inN_end ?_
  go_wp2_with (refine at_call1 (b := .clear) rfl ?_; refine wl_op rfl (fun K' hK => ?_); refine cfo_clear1 _ rfl Try.underlying72 zvTS rfl rfl (g := g) (off := m) rfl HC.out HXl.out ?_; intro w' hg hc; clear hg; (replace HC := hide hc; clear hc); refine hK _ _ ?_; clear hK K')
  go_ret
  refine ⟨rfl, ?_⟩
  have H := HC.out.cutR (m := m) (by omega) (by simp)
  have hx9 := HXl.out
  rw [show (xs.take m ++ [Value.slice none 0 0] ++ xs.drop (m + 1)).take (m * 1) = xs.take m from by rw [Nat.mul_one, List.append_assoc, List.take_append_of_le_length (by simp; omega), List.take_take, Nat.min_self]] at H
  exact H
set_option maxHeartbeats 2000000 in
theorem close_nil (w : World) : Calls Try.prog 29 #[.pointer none] w (fun e w' => e = .returned (.bool false) ∧ w' = w) := by
  go_enter Try.func29, Try.ntmps29
  go_wp2_with (go_at_call 36; refine (depth_nil _).mono ?_; rintro e w' ⟨rfl, hw⟩; replace hw := hw.symm; subst hw)
  go_ret
  exact ⟨rfl, rfl⟩
theorem set_pop (xs : List Value) (v : Value) : (v :: xs).reverse.take xs.length = xs.reverse := by
  rw [List.reverse_cons, List.take_append_of_le_length (by simp), List.take_of_length_le (by simp)]
def clsM : Sx → Sx
  | [] => []
  | [l] => [l]
  | _ :: r => r
set_option maxHeartbeats 16000000 in
theorem close_at {w0 w : World} {b mb : Nat} {l : Lv1} {r : Sx} {L : List Lc} {Rs : List Rw} {Fs : List Fk} (H : PS w0 b mb (l :: r) L Rs Fs w) (hG : Gd (l :: r)) (hM : r.length < 64) : Calls Try.prog 29 #[.pointer (some ⟨b, 0, none⟩)] w (fun e w' => e = .returned (.bool (decide (r ≠ []))) ∧ PS w0 b mb (clsM (l :: r)) L Rs Fs w') := by
  have hl := (gd_cons.1 hG).1.le
  have hnd := (gd_cons.1 hG).1.nd
  have hnm := (gd_cons.1 hG).1.nm
  obtain ⟨d, c, VM, hVM, H⟩ := H
  match VM, hVM, H with
  | [], hVM, H => cases hVM
  | (v, l') :: VR, hVM, H =>
  injection hVM with hl' hr'
  simp only at hl'
  have hl' := hl'.symm
  subst hl'
  subst hr'
  obtain ⟨d1, c1, hv⟩ := own_slice (H.cx.row (rowP (v, l)) (.tail _ (.head _)))
  have hv : v = .slice d1 l.length c1 := hv
  subst hv
  rw [List.length_map] at hM
  obtain ⟨m, hm⟩ : ∃ m, VR.length = m := ⟨_, rfl⟩
  obtain ⟨N, hN⟩ : ∃ N, ((Value.slice d1 l.length c1, l) :: VR).length = N := ⟨_, rfl⟩
  have hNm : N = m + 1 := by rw [← hN, ← hm]; rfl
  unfold PC at H
  rw [hN] at H
  obtain ⟨g, rfl, hc1, hc2⟩ := own_at (H.cx.row _ (.head _)) (by omega)
  have HXm := hide (show (((Value.slice d1 l.length c1, l) :: VR).map Prod.fst).reverse[m]? = some (.slice d1 l.length c1) from by rw [List.map_cons, List.reverse_cons, List.getElem?_append_right (by simp; omega)]; simp [hm])
  have HPS := hide (fun W (h : Cf w0 (fun _ => False) none (⟨b, [.map (some mb), .slice (some ⟨g, 0, none⟩) N c], 74⟩ :: L) (⟨.slice (some ⟨g, 0, none⟩) N c, 54, 1, N, (((Value.slice d1 l.length c1, l) :: VR).map Prod.fst).reverse⟩ :: (((Value.slice d1 l.length c1, l) :: VR).map rowP ++ Rs)) (⟨mb, fun W => FM W mb (ents (((Value.slice d1 l.length c1, l) :: VR).map Prod.snd))⟩ :: Fs) W) => show PS w0 b mb (l :: VR.map Prod.snd) L Rs Fs W from ⟨some ⟨g, 0, none⟩, c, (Value.slice d1 l.length c1, l) :: VR, rfl, by unfold PC; rw [hN]; exact h⟩)
  have HM := hide (show (l :: VR.map Prod.snd).length ≤ 64 by simp; omega)
  have HDm := hide (show (((l :: VR.map Prod.snd).length : Nat) : Int) - 1 = (m : Int) by simp; omega)
  have HNm := hide hNm
  have Hm := hide hm
  have m0 : (m : Int) < N := by omega
  have m1 : (N : Int) ≤ 64 := by omega
  have m2 : (c : Int) ≤ 9223372036854775807 := by unfold maxLen at hc2; omega
  have hl2 : (l.length : Int) ≤ 256 := by omega
  have hm64 : m ≤ 64 := by omega
  have HC := hide H
  by_cases h0 : m = 0
  · have e0 : VR = [] := List.length_eq_zero_iff.1 (by omega)
    subst e0
    have m9 : (m : Int) ≤ 0 := by omega
    clear H hl hnd hnm hM hN hm hNm hc1 hc2 h0 hm64 m0
    go_enter Try.func29, Try.ntmps29
    go_wp2_with (go_at_call 36; refine (depth_at (HPS.out _ HC.out) HM.out).mono ?_; rw [HDm.out]; rintro e w' ⟨rfl, hw⟩; replace hw := hw.symm; subst hw)
    go_ret
    exact ⟨rfl, HPS.out _ HC.out⟩
  · have hne : VR.map Prod.snd ≠ [] := fun e => h0 (by rw [← hm, ← List.length_map (f := Prod.snd), e]; rfl)
    rw [show decide (VR.map Prod.snd ≠ []) = true by simpa using hne]
    have hcl : clsM (l :: VR.map Prod.snd) = VR.map Prod.snd := by
      cases hv : VR.map Prod.snd with
      | nil => exact absurd hv hne
      | cons a t => rfl
    rw [hcl]
    have m9 : ¬ (m : Int) ≤ 0 := by omega
    have m8 : (m : Int) + 1 = N := by omega
    have HNc := hide (And.intro hc1 hc2)
    have HNd := hide hnd
    have HNmS := hide hnm
    have HRl := hide (show (VR.map Prod.snd).length = m by rw [List.length_map, hm])
    clear H hM hN hm hNm hc1 hc2 h0 hm64 hne hcl hnd hnm hl
    go_enter Try.func29, Try.ntmps29
    go_wp2_with (first | (go_at_call 36; refine (depth_at (HPS.out _ HC.out) HM.out).mono ?_; rw [HDm.out]; rintro e w' ⟨rfl, hw⟩; replace hw := hw.symm; subst hw) | (refine at_load 72 rfl ?_; refine wl_load_c rfl 72 _ rfl tcTSS rfl HC.out.cx (by repeat (first | exact List.Mem.head _ | apply List.Mem.tail)) (by repeat (first | exact GetS.cons _ (GetS.nil _) | apply GetS.skip)) ?_) | (refine at_load 54 rfl ?_; refine wl_cell rfl 54 _ rfl tcTS rfl (HC.out.cell (ad := ⟨g, 0, none⟩) (by repeat (first | exact List.Mem.head _ | apply List.Mem.tail)) HXm.out) ?_))
    have HC1 := HC
    clear HC
    go_loopw [18] (fun iv W => ∃ i : Nat, i ≤ l.length ∧ iv = .int .i64 i ∧ Hid (Cf w0 (fun _ => False) none (⟨b, [.map (some mb), .slice (some ⟨g, 0, none⟩) N c], 74⟩ :: L) (⟨.slice (some ⟨g, 0, none⟩) N c, 54, 1, N, (((Value.slice d1 l.length c1, l) :: VR).map Prod.fst).reverse⟩ :: (((Value.slice d1 l.length c1, l) :: VR).map rowP ++ Rs)) (⟨mb, fun W => FM W mb (ents (l.drop i :: VR.map Prod.snd))⟩ :: Fs) W)) (fun iv _ => l.length - (intOf iv).toNat)
    case atStart => exact ⟨0, Nat.zero_le _, rfl, HC1⟩
    case round =>
      clear HC1
      obtain ⟨i, hi, rfl, HC⟩ := hrel
      by_cases hlt : i < l.length
      · have q1 : (i : Int) < l.length := by omega
        obtain ⟨p, hp⟩ : ∃ p, l[i]? = some p := ⟨l[i], List.getElem?_eq_getElem hlt⟩
        obtain ⟨g1, rfl, hd1, hd2⟩ := own_at (HC.out.cx.row (rowP (Value.slice d1 l.length c1, l)) (.tail _ (.head _))) (by omega)
        have HXn := hide (show (nmC l)[i]? = some (.string (bs p.1)) by unfold nmC; rw [List.getElem?_map, hp]; rfl)
        have hdr : l.drop i = p :: l.drop (i + 1) := by
          have h9 := (List.getElem?_eq_some_iff.1 hp).2
          rw [List.drop_eq_getElem_cons hlt, h9]
        have HDR := hide (fun W (ty : TypeId) (h : FM W mb (ents (l.drop i :: VR.map Prod.snd))) => by
          obtain ⟨w1, q1, q2, q3⟩ := h.drop (n := (m, p.1)) ⟨by simp only; omega, by have := HNmS.out p (List.mem_of_getElem? hp); simp only; unfold maxLen; omega⟩ ty
          refine (show ∃ w', (Builtin.delete_ #[71, 79] ty #[.map (some mb), keyV (m, p.1)]).run Try.prog W = .ok (.tuple #[]) w' ∧ FM w' mb (ents (l.drop (i + 1) :: VR.map Prod.snd)) ∧ W.grownBy w' (some mb) from ⟨w1, q1, ?_, q3⟩)
          rw [hdr, ← HRl.out] at q2
          rwa [ents_drop (by rw [← hdr]; exact (List.drop_sublist i l).map Prod.fst |>.nodup HNd.out)] at q2)
        have q2 : (c1 : Int) ≤ 9223372036854775807 := by unfold maxLen at hd2; omega
        clear hp hdr hd1 hd2
        go_wp2_with (first | (refine at_load 9 rfl ?_; refine wl_cell rfl 9 _ rfl tcSTR rfl (HC.out.cell (ad := ⟨g1, 0, none⟩) (by repeat (first | exact List.Mem.head _ | apply List.Mem.tail)) HXn.out) ?_) | (refine at_load 71 rfl ?_; refine wl_load_c rfl 71 _ rfl tcMAP rfl HC.out.cx (by repeat (first | exact List.Mem.head _ | apply List.Mem.tail)) (by repeat (first | exact GetS.cons _ (GetS.nil _) | apply GetS.skip)) ?_) | (refine at_call2 (b := .delete) rfl ?_; refine wl_op rfl (fun K' hK => ?_); refine cfo_del (k := keyV (m, p.1)) rfl rfl rfl HC.out (HDR.out _ _ (HC.out.fs _ (.head _))) (stabS _ _) ?_; intro w' hg hc; clear hg; (replace HC := hide hc; clear hc); refine hK _ _ ?_; clear hK K'))
        exact ⟨⟨i + 1, by omega, by go_num, HC⟩, by simp [intOf]; omega⟩
      · obtain rfl : i = l.length := by omega
        rw [List.drop_length, ents_nil] at HC
        go_wp2_with (first | (refine at_load 72 rfl ?_; refine wl_load_c rfl 72 _ rfl tcTSS rfl HC.out.cx (by repeat (first | exact List.Mem.head _ | apply List.Mem.tail)) (by repeat (first | exact GetS.cons _ (GetS.nil _) | apply GetS.skip)) ?_) | (go_at_call 57; have H9 := HC.out; refine (delete_at H9 HNm.out HNc.out.1 HNc.out.2).mono ?_; rintro e w9 ⟨rfl, hc⟩; clear H9; (replace HC := hide hc; clear hc)) | (refine at_store 72 rfl ?_; refine cf_store (us := [_]) rfl 72 _ _ rfl rfl rfl tcTSS.sz rfl HC.out (by repeat (first | exact List.Mem.head _ | apply List.Mem.tail)) (by repeat (first | exact PutS.cons _ _ (PutS.nil _) | apply PutS.skip)) (by repeat (first | exact Upd.here _ _ _ | apply Upd.there)) ?_; intro w' hc; (replace HC := hide hc; clear hc)))
        go_ret
        refine ⟨rfl, some ⟨g, 0, none⟩, c, VR, rfl, ?_⟩
        unfold PC
        rw [Hm.out]
        have H := HC.out.swapR.dropR
        have e1 := set_pop (VR.map Prod.fst) (Value.slice d1 l.length c1)
        rw [List.length_map, Hm.out] at e1
        rw [← e1]
        exact H
end Go.Proofs.Ytmoekalagollhaa.So
