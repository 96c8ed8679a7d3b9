/-
  Package scope: Find, Here.
-/
import Derived.Test.YtmoekalagollhaaSc5
namespace Go.Proofs.Ytmoekalagollhaa.So
open Go.RowKit hiding Hid
open Go.Proofs.Ytmoekalagollhaa.Tx Go.Proofs.Ytmoekalagollhaa.Lx Go.Proofs.Ytmoekalagollhaa.Tr Go.Proofs.Ytmoekalagollhaa.Ty
set_option linter.unusedVariables false
set_option linter.unusedSimpArgs false
set_option maxRecDepth 100000

theorem at_lookup {o : Oper} {ops : Array Oper} {rest : List Oper} {a : Act} {w : World} {Q : Exit → Act → World → Prop} (T : TypeId) {x y : Operand} {b : Bool} (_ : o.op = .lookup T x y b) (h : wpList Try.prog ops Q (o :: rest) a w) : wpList Try.prog ops Q (o :: rest) a w := h
theorem wl_look {o : Oper} {ops : Array Oper} {rest : List Oper} {a : Act} {w : World} {Q : Exit → Act → World → Prop} {T : TypeId} {x y : Operand} {b : Bool} {m k r : Value} (hgd : o.guard = none) (ho : o.op = .lookup T x y b) (hx : a.eval x = m) (hy : a.eval y = k) (hr : (Instr.lookup T m k b).run Try.prog w = .ok r w) (h : wpList Try.prog ops Q rest (a.put o.dst r) w) : wpList Try.prog ops Q (o :: rest) a w := by
  refine wl_val hgd ?_ h
  unfold execOp
  simp [ho, hx, hy, hr]
def fndV : Option (Int × Nat) → Value
  | none => .tuple #[.int .i64 0, .int .i64 0, .bool false]
  | some (n, k) => .tuple #[.int .i64 n, .int .i64 (k : Int), .bool true]
set_option maxHeartbeats 4000000 in
theorem find_nil (w : World) (s : Value) : Calls Try.prog 34 #[.pointer none, s] w (fun e w' => e = .returned (fndV none) ∧ w' = w) := by
  go_enter Try.func34, Try.ntmps34
  go_wp2_with (go_at_call 36; refine (depth_nil _).mono ?_; rintro e w' ⟨rfl, hw⟩; replace hw := hw.symm; subst hw)
  go_loop [5] (fun iv => iv = .int .i64 (-1)) (fun iv => 0)
  case atStart => rfl
  case round =>
    subst hrel
    go_wp2
    refine bodyPost_ret (v := fndV none) (by simp [results, Try.results34, fndV, go_sem]) rfl ?_
    exact ⟨rfl, rfl⟩
set_option maxHeartbeats 8000000 in
theorem find_at {w0 w : World} {b mb : Nat} {M : Sx} {L : List Lc} {Rs : List Rw} {Fs : List Fk} (H : PS w0 b mb M L Rs Fs w) (hG : Gd M) (hM : M.length ≤ 64) (s : Nm) (hs : s.length ≤ 5000) : Calls Try.prog 34 #[.pointer (some ⟨b, 0, none⟩), .string (bs s)] w (fun e w' => e = .returned (fndV (fndS M s)) ∧ w' = w) := by
  have HP := hide H
  have HM := hide hM
  obtain ⟨d, c, VM, hVM, H⟩ := H
  unfold PC at H
  have HC := hide H
  have HGd := hide hG
  have HF := hide (show FM w mb (ents M) by rw [← hVM]; exact H.fs _ (.head _))
  have m1 : (M.length : Int) ≤ 64 := by omega
  have HS := hide hs
  clear H hG hVM hs
  go_enter Try.func34, Try.ntmps34
  go_wp2_with (go_at_call 36; refine (depth_at HP.out HM.out).mono ?_; rintro e w' ⟨rfl, hw⟩; replace hw := hw.symm; subst hw)
  go_loop [5] (fun iv => ∃ k : Nat, k ≤ M.length ∧ iv = .int .i64 ((k : Int) - 1) ∧ Hid (∀ j, k ≤ j → j < M.length → fnd (lev M j) s = none)) (fun iv => (intOf iv + 1).toNat)
  case atStart => exact ⟨M.length, Nat.le_refl _, rfl, hide (fun j h1 h2 => by omega)⟩
  case round =>
    obtain ⟨k, hk, rfl, HN⟩ := hrel
    cases k with
    | zero =>
      have HR := hide (show fndS M s = none from fndS_no (fun j hj => HN.out j (by omega) hj))
      clear HN
      go_wp2
      refine bodyPost_ret (v := fndV none) (by simp [results, Try.results34, fndV, go_sem]) rfl ?_
      rw [HR.out]
      exact ⟨rfl, rfl⟩
    | succ q =>
      have e1 : ((q + 1 : Nat) : Int) - 1 = q := by omega
      rw [e1]
      have q0 : (0 : Int) ≤ q := by omega
      have HQ := hide (show q ≤ 64 by omega)
      have HK := hide hk
      cases hf : fnd (lev M q) s with
      | none =>
        have HLK := hide (FM.look_no HF.out HQ.out HS.out hf)
        have HN2 := hide (show ∀ j, q ≤ j → j < M.length → fnd (lev M j) s = none from fun j h1 h2 => by
          by_cases e : j = q
          · rw [e]; exact hf
          · exact HN.out j (by omega) h2)
        clear hf HN e1
        go_wp2_with (first | (refine at_load 71 rfl ?_; refine wl_load_c rfl 71 _ rfl tcMAP rfl HC.out.cx (by repeat (first | exact List.Mem.head _ | apply List.Mem.tail)) (by repeat (first | exact GetS.cons _ (GetS.nil _) | apply GetS.skip)) ?_) | (refine at_lookup 71 rfl ?_; refine wl_look (m := .map (some mb)) (k := keyV (q, s)) (r := .tuple #[.int .i64 0, .bool false]) rfl rfl rfl rfl HLK.out ?_))
        exact ⟨⟨q, by have := HK.out; omega, by go_num, HN2⟩, by simp [intOf] <;> omega⟩
      | some v =>
        have HLK := hide (FM.look_yes HF.out HGd.out HQ.out HS.out hf)
        have HR := hide (show fndS M s = some (v, q) from fndS_at (by have := HK.out; omega) (fun j h1 h2 => HN.out j (by omega) h2) hf)
        clear hf HN e1
        go_wp2_with (first | (refine at_load 71 rfl ?_; refine wl_load_c rfl 71 _ rfl tcMAP rfl HC.out.cx (by repeat (first | exact List.Mem.head _ | apply List.Mem.tail)) (by repeat (first | exact GetS.cons _ (GetS.nil _) | apply GetS.skip)) ?_) | (refine at_lookup 71 rfl ?_; refine wl_look (m := .map (some mb)) (k := keyV (q, s)) (r := .tuple #[.int .i64 v, .bool true]) rfl rfl rfl rfl HLK.out ?_))
        refine bodyPost_ret (v := fndV (some (v, q))) (by simp [results, Try.results34, fndV, go_sem]) rfl ?_
        rw [HR.out]
        exact ⟨rfl, rfl⟩
theorem nil_eq (W : World) : (binOp .eql 54 (.slice none 0 0) (.slice none 0 0)).run Try.prog W = .ok (.bool true) W := by kernel_rfl
theorem some_eq (W : World) (ad : Addr) (n c : Nat) : (binOp .eql 54 (.slice (some ad) n c) (.slice none 0 0)).run Try.prog W = .ok (.bool false) W := by kernel_rfl
theorem nm_one (l : Lv1) : (nmC l).all (·.oneCell') = true := by
  unfold nmC
  simp [Value.oneCell']
set_option maxHeartbeats 4000000 in
theorem clone_at {w0 w : World} {L : List Lc} {Rs : List Rw} {Fs : List Fk} (H : Cf w0 (fun _ => False) none L Rs Fs w) {d : Option Addr} {n c : Nat} {xs : List Value} (hm : ⟨.slice d n c, 9, 1, n, xs⟩ ∈ Rs) (h1 : xs.all (·.oneCell') = true) (hn : n ≤ 900000) : Calls Try.prog 61 #[.slice d n c] w (fun e w' => ∃ d' c', e = .returned (.slice d' n c') ∧ Cf w0 (fun _ => False) none L (⟨.slice d' n c', 9, 1, n, xs⟩ :: Rs) Fs w') := by
  have HC := hide H
  have HRm := hide hm
  have HO := hide h1
  have HNn := hide (show 0 + n ≤ 900000 by omega)
  cases d with
  | none =>
    have hh : n = 0 ∧ c = 0 ∧ xs = [] := by
      obtain ⟨q1, ⟨q2, q3⟩ | ⟨g, cap, cur, q2, _⟩⟩ := H.cx.row _ hm
      · injection q2 with _ q4 q5
        simp only at q1 q3
        refine ⟨q3, q5, ?_⟩
        rw [q3] at q1
        exact List.length_eq_zero_iff.1 (by simpa using q1)
      · cases q2
    obtain ⟨rfl, rfl, rfl⟩ := hh
    clear H hm h1 hn
    have hq := fun W => nil_eq W
    go_enter Try.func61, Try.ntmps61
    go_wp2
    go_ret
    exact ⟨none, 0, rfl, HC.out.nilR 9 1⟩
  | some ad =>
    clear H hm h1 hn
    have hq := fun W => some_eq W ad n c
    go_enter Try.func61, Try.ntmps61
    go_wp2_with (first | (refine at_bs 54 rfl ?_; refine wl_op rfl (fun K' hK => ?_); refine cfo_bs0 54 rfl Try.underlying54 (k := 1) (by kernel_rfl) HC.out ?_; intro bb w' hg hc; clear hg; (replace HC := hide hc; clear hc); refine hK _ _ ?_; clear hK K') | (refine at_call2 (b := .append) rfl ?_; refine wl_op rfl (fun K' hK => ?_); refine cfo_apr (v := .slice (some ⟨bb, 0, none⟩) 0 0) _ _ rfl Try.underlying54 infoSTR (by decide) rfl rfl HC.out HRm.out HO.out HNn.out ?_; intro d9 c9 w' hg hc; clear hg; (replace HC := hide hc; clear hc); refine hK _ _ ?_; clear hK K'))
    go_ret
    have H := HC.out
    rw [Nat.zero_add, List.nil_append] at H
    exact ⟨d9, c9, rfl, H⟩
set_option maxHeartbeats 2000000 in
theorem here_nil (w : World) : Calls Try.prog 39 #[.pointer none] w (fun e w' => e = .returned (.slice none 0 0) ∧ w' = w) := by
  go_enter Try.func39, Try.ntmps39
  go_wp2
  go_ret
  exact ⟨rfl, rfl⟩
set_option maxHeartbeats 8000000 in
theorem here_at {w0 w : World} {b mb : Nat} {l : Lv1} {r : Sx} {L : List Lc} {Rs : List Rw} {Fs : List Fk} (H : PS w0 b mb (l :: r) L Rs Fs w) (hl : l.length ≤ 256) (hM : r.length < 64) : Calls Try.prog 39 #[.pointer (some ⟨b, 0, none⟩)] w (fun e w' => ∃ d' c', e = .returned (.slice d' l.length c') ∧ PS w0 b mb (l :: r) L (⟨.slice d' l.length c', 9, 1, l.length, nmC l⟩ :: Rs) Fs w') := by
  obtain ⟨d, c, VM, hVM, H⟩ := H
  match VM, hVM, H with
  | [], hVM, H => cases hVM
  | (v, l') :: VR, hVM, H =>
  injection hVM with hl' hr'
  simp only at hl'
  have hl' := hl'.symm
  subst hl'
  subst hr'
  obtain ⟨d1, c1, hv⟩ := own_slice (H.cx.row (rowP (v, l)) (.tail _ (.head _)))
  have hv : v = .slice d1 l.length c1 := hv
  subst hv
  rw [List.length_map] at hM
  obtain ⟨m, hm⟩ : ∃ m, VR.length = m := ⟨_, rfl⟩
  obtain ⟨N, hN⟩ : ∃ N, ((Value.slice d1 l.length c1, l) :: VR).length = N := ⟨_, rfl⟩
  have hNm : N = m + 1 := by rw [← hN, ← hm]; rfl
  unfold PC at H
  rw [hN] at H
  obtain ⟨g, rfl, hc1, hc2⟩ := own_at (H.cx.row _ (.head _)) (by omega)
  have HXm := hide (show (((Value.slice d1 l.length c1, l) :: VR).map Prod.fst).reverse[m]? = some (.slice d1 l.length c1) from by rw [List.map_cons, List.reverse_cons, List.getElem?_append_right (by simp; omega)]; simp [hm])
  have HPS := hide (fun W (h : Cf w0 (fun _ => False) none (⟨b, [.map (some mb), .slice (some ⟨g, 0, none⟩) N c], 74⟩ :: L) (⟨.slice (some ⟨g, 0, none⟩) N c, 54, 1, N, (((Value.slice d1 l.length c1, l) :: VR).map Prod.fst).reverse⟩ :: (((Value.slice d1 l.length c1, l) :: VR).map rowP ++ Rs)) (⟨mb, fun W => FM W mb (ents (((Value.slice d1 l.length c1, l) :: VR).map Prod.snd))⟩ :: Fs) W) => show PS w0 b mb (l :: VR.map Prod.snd) L Rs Fs W from ⟨some ⟨g, 0, none⟩, c, (Value.slice d1 l.length c1, l) :: VR, rfl, by unfold PC; rw [hN]; exact h⟩)
  have HM := hide (show (l :: VR.map Prod.snd).length ≤ 64 by simp; omega)
  have HDm := hide (show (((l :: VR.map Prod.snd).length : Nat) : Int) - 1 = (m : Int) by simp; omega)
  have HNm := hide hNm
  have Hm := hide hm
  have m0 : (m : Int) < N := by omega
  have m1 : (N : Int) ≤ 64 := by omega
  have m2 : (c : Int) ≤ 9223372036854775807 := by unfold maxLen at hc2; omega
  have hl2 : (l.length : Int) ≤ 256 := by omega
  have hm64 : m ≤ 64 := by omega
  have HL9 := hide (show l.length ≤ 900000 by omega)
  have HC := hide H
  clear H hl hM hN hm hNm hc1 hc2
  go_enter Try.func39, Try.ntmps39
  go_upto_region 3 with (fail)
  replace HC := hide (HC.out.g (d1_g _)); refine wp_region_inN (fun W => W.cell? ⟨b, 1, none⟩ = some (.slice (some ⟨g, 0, none⟩) N c) ∧ W.cell? ⟨g, m, none⟩ = some (.slice d1 l.length c1)) [9] (Pn.of [(1, 0), (1, 1), (1, 2), (1, 3), (1, 4), (2, 5), (1, 6), (1, 7), (2, 8), (0, 9)] .nil) (by kernel_rfl) (by kernel_rfl) (by kernel_rfl) (by kernel_rfl) (fun _ _ d _ _ h => by cases d <;> exact h) ⟨cf_cell HC.out (by repeat (first | exact List.Mem.head _ | apply List.Mem.tail)) (by repeat (first | exact GetS.cons _ (GetS.nil _) | apply GetS.skip)), HC.out.cell (ad := ⟨g, 0, none⟩) (by repeat (first | exact List.Mem.head _ | apply List.Mem.tail)) HXm.out⟩ ?_
  (refine inN_read (v := ?_) rfl (Or.inl ⟨by rfl, ?_⟩) ?_; rotate_left 1; (focus (intro W hSW; clear hSW; go_simp; (try (with_reducible rfl)))); (try simp only [Act.put, List.getElem_toArray, List.getElem_cons_zero, List.getElem_cons_succ, List.setIfInBounds_toArray, List.set_cons_zero, List.set_cons_succ]))
  (refine inN_read (v := ?_) rfl (Or.inl ⟨by rfl, ?_⟩) ?_; rotate_left 1; (focus (intro W hSW; clear hSW; go_simp; (try (with_reducible rfl)))); (try simp only [Act.put, List.getElem_toArray, List.getElem_cons_zero, List.getElem_cons_succ, List.setIfInBounds_toArray, List.set_cons_zero, List.set_cons_succ]))
  (refine inN_read (v := ?_) rfl (Or.inl ⟨by rfl, ?_⟩) ?_; rotate_left 1; (focus (intro W hSW; clear hSW; go_simp; (try (with_reducible rfl)))); (try simp only [Act.put, List.getElem_toArray, List.getElem_cons_zero, List.getElem_cons_succ, List.setIfInBounds_toArray, List.set_cons_zero, List.set_cons_succ]))
  (refine inN_read rfl (yl_cell tcTSS rfl rfl rfl (fun W hS => hS.1)) ?_; (try simp only [Act.put, List.getElem_toArray, List.getElem_cons_zero, List.getElem_cons_succ, List.setIfInBounds_toArray, List.set_cons_zero, List.set_cons_succ]))
  (refine inN_read (v := ?_) rfl (Or.inl ⟨by rfl, ?_⟩) ?_; rotate_left 1; (focus (intro W hSW; clear hSW; go_simp; (try (with_reducible rfl)))); (try simp only [Act.put, List.getElem_toArray, List.getElem_cons_zero, List.getElem_cons_succ, List.setIfInBounds_toArray, List.set_cons_zero, List.set_cons_succ]))
  refine inN_act rfl rfl (fun K' hK => ?_); go_simp; refine (depth_at (HPS.out _ HC.out) HM.out).mono ?_; rw [HDm.out]; rintro e w1 ⟨rfl, hw⟩; replace hw := hw.symm; subst hw; go_simp; refine hK _ _ (.inr (fun _ => ⟨cf_cell HC.out (by repeat (first | exact List.Mem.head _ | apply List.Mem.tail)) (by repeat (first | exact GetS.cons _ (GetS.nil _) | apply GetS.skip)), HC.out.cell (ad := ⟨g, 0, none⟩) (by repeat (first | exact List.Mem.head _ | apply List.Mem.tail)) HXm.out⟩)) ?_; clear hK K'; (try simp only [Act.put, List.getElem_toArray, List.getElem_cons_zero, List.getElem_cons_succ, List.setIfInBounds_toArray, List.set_cons_zero, List.set_cons_succ])
  (refine inN_read (v := ?_) rfl (Or.inl ⟨by rfl, ?_⟩) ?_; rotate_left 1; (focus (intro W hSW; clear hSW; go_simp; (try (with_reducible rfl)))); (try simp only [Act.put, List.getElem_toArray, List.getElem_cons_zero, List.getElem_cons_succ, List.setIfInBounds_toArray, List.set_cons_zero, List.set_cons_succ]))
  (refine inN_read rfl (yl_cell tcTS rfl rfl rfl (fun W hS => hS.2)) ?_; (try simp only [Act.put, List.getElem_toArray, List.getElem_cons_zero, List.getElem_cons_succ, List.setIfInBounds_toArray, List.set_cons_zero, List.set_cons_succ]))
  refine inN_act rfl rfl (fun K' hK => ?_); go_simp; refine (clone_at HC.out (by repeat (first | exact List.Mem.head _ | apply List.Mem.tail)) (nm_one l) HL9.out).mono ?_; rintro e w1 ⟨d9, c9, rfl, hc⟩; (replace HC := hide hc; clear hc); go_simp; refine hK _ _ (.inr (fun _ => ⟨cf_cell HC.out (by repeat (first | exact List.Mem.head _ | apply List.Mem.tail)) (by repeat (first | exact GetS.cons _ (GetS.nil _) | apply GetS.skip)), HC.out.cell (ad := ⟨g, 0, none⟩) (by repeat (first | exact List.Mem.head _ | apply List.Mem.tail)) HXm.out⟩)) ?_; clear hK K'; (try simp only [Act.put, List.getElem_toArray, List.getElem_cons_zero, List.getElem_cons_succ, List.setIfInBounds_toArray, List.set_cons_zero, List.set_cons_succ])
  (refine inN_pure (v := ?_) rfl (Or.inl ⟨by rfl, ?_⟩) ?_; rotate_left 1; (focus (intro W hSW; clear hSW; go_simp; (try (with_reducible rfl)))); (try simp only [Act.put, List.getElem_toArray, List.getElem_cons_zero, List.getElem_cons_succ, List.setIfInBounds_toArray, List.set_cons_zero, List.set_cons_succ]))
  refine inN_end ?_
  go_wp2
  go_ret
  refine ⟨d9, c9, rfl, some ⟨g, 0, none⟩, c, (Value.slice d1 l.length c1, l) :: VR, rfl, ?_⟩
  unfold PC
  rw [show ((Value.slice d1 l.length c1, l) :: VR).length = N by rw [HNm.out, ← Hm.out]; rfl]
  exact HC.out.permR (List.perm_middle (a := (⟨.slice d9 l.length c9, 9, 1, l.length, nmC l⟩ : Rw)) (l₁ := ⟨.slice (some ⟨g, 0, none⟩) N c, 54, 1, N, (((Value.slice d1 l.length c1, l) :: VR).map Prod.fst).reverse⟩ :: ((Value.slice d1 l.length c1, l) :: VR).map rowP) (l₂ := Rs)).symm
end Go.Proofs.Ytmoekalagollhaa.So
