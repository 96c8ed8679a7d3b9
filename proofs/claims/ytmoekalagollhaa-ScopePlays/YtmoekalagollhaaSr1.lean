/-
  The document's own scope: in memory; New, Depth, Open, Close.
-/
import Derived.Test.YtmoekalagollhaaSc7
namespace Go.Proofs.Ytmoekalagollhaa.So
open Go.RowKit hiding Hid
open Go.Proofs.Ytmoekalagollhaa.Tx Go.Proofs.Ytmoekalagollhaa.Lx Go.Proofs.Ytmoekalagollhaa.Tr Go.Proofs.Ytmoekalagollhaa.Ty
set_option linter.unusedVariables false
set_option linter.unusedSimpArgs false
set_option maxRecDepth 100000

theorem tcTI : TyC Try.prog 57 := tyC_of Try.underlying57 rfl (by kernel_rfl)
theorem tcTII : TyC Try.prog 75 := tyC_of Try.underlying75 rfl (by kernel_rfl)
theorem tcINT : TyC Try.prog 3 := tyC_of Try.underlying3 rfl (by kernel_rfl)
theorem infoTI : (Try.prog.info? 57).map (fun i => (i.zero.map (·.cells.size), i.size, i.bytes)) = some (some 1, 1, 24) := by kernel_rfl
theorem infoINT : (Try.prog.info? 3).map (fun i => (i.zero.map (·.cells.size), i.size, i.bytes)) = some (some 1, 1, 8) := by kernel_rfl
def nC (l : Lv1) : List Value := l.map (fun p => .int .i64 p.2)
abbrev Vq := List (Value × Value × Lv1)
def rowN (p : Value × Value × Lv1) : Rw := ⟨p.1, 9, 1, p.2.2.length, nmC p.2.2⟩
def rowF (p : Value × Value × Lv1) : Rw := ⟨p.2.1, 3, 1, p.2.2.length, nC p.2.2⟩
def rowsQ : Vq → List Rw
  | [] => []
  | p :: V => rowN p :: rowF p :: rowsQ V
abbrev fstQ (V : Vq) : List Value := (V.map (fun p => p.1)).reverse
abbrev sndQ (V : Vq) : List Value := (V.map (fun p => p.2.1)).reverse
abbrev modQ (V : Vq) : Sx := V.map (fun p => p.2.2)
abbrev QC (w0 : World) (q : Nat) (dn : Option Addr) (cn : Nat) (df : Option Addr) (cf : Nat) (n : Nat) (V : Vq) (L : List Lc) (Rs : List Rw) (Fs : List Fk) (w : World) : Prop := Cf w0 (fun _ => False) none (⟨q, [.slice dn n cn, .slice df n cf], 77⟩ :: L) (⟨.slice dn n cn, 54, 1, n, fstQ V⟩ :: ⟨.slice df n cf, 57, 1, n, sndQ V⟩ :: (rowsQ V ++ Rs)) Fs w
def QS (w0 : World) (q : Nat) (M : Sx) (L : List Lc) (Rs : List Rw) (Fs : List Fk) (w : World) : Prop := ∃ dn cn df cf V, modQ V = M ∧ QC w0 q dn cn df cf M.length V L Rs Fs w
theorem fstQ_cons (p : Value × Value × Lv1) (V : Vq) : fstQ (p :: V) = fstQ V ++ [p.1] := by unfold fstQ; rw [List.map_cons, List.reverse_cons]
theorem sndQ_cons (p : Value × Value × Lv1) (V : Vq) : sndQ (p :: V) = sndQ V ++ [p.2.1] := by unfold sndQ; rw [List.map_cons, List.reverse_cons]
theorem modQ_len (V : Vq) : (modQ V).length = V.length := List.length_map _
set_option maxHeartbeats 2000000 in
theorem rdepth_at {w0 w : World} {q : Nat} {M : Sx} {L : List Lc} {Rs : List Rw} {Fs : List Fk} (H : QS w0 q M L Rs Fs w) (hM : M.length ≤ 64) : Calls Try.prog 37 #[.pointer (some ⟨q, 0, none⟩)] w (fun e w' => e = .returned (.int .i64 ((M.length : Int) - 1)) ∧ w' = w) := by
  obtain ⟨dn, cn, df, cf, V, hV, H⟩ := H
  have HC := hide H
  obtain ⟨n, hn⟩ : ∃ n, M.length = n := ⟨_, rfl⟩
  unfold QC at HC
  rw [hn] at HC hM ⊢
  have k1 : (n : Int) ≤ 64 := by omega
  clear H hM hn hV
  go_enter Try.func37, Try.ntmps37
  go_wp2_with (refine at_load 72 rfl ?_; refine wl_load_c rfl 72 _ rfl tcTSS rfl HC.out.cx (by repeat (first | exact List.Mem.head _ | apply List.Mem.tail)) (by repeat (first | exact GetS.cons _ (GetS.nil _) | apply GetS.skip)) ?_)
  go_ret
  exact ⟨rfl, rfl⟩
set_option maxHeartbeats 2000000 in
theorem rnew_at {w0 w : World} {L : List Lc} {Rs : List Rw} {Fs : List Fk} (H : Cf w0 (fun _ => False) none L Rs Fs w) : Calls Try.prog 26 #[] w (fun e w' => ∃ q, e = .returned (.pointer (some ⟨q, 0, none⟩)) ∧ QS w0 q [[]] L Rs Fs w') := by
  have HC := hide H
  clear H
  go_enter Try.func26, Try.ntmps26
  go_wp2_with (first | (refine at_bs 72 rfl ?_; refine wl_op rfl (fun K' hK => ?_); refine cfo_br 72 1 _ rfl 54 1 [.slice none 0 0] HC.out rfl (by decide) (by kernel_rfl) ?_; intro g w' hg hc; clear hg; (replace HC := hide hc; clear hc); refine hK _ _ ?_; clear hK K') | (refine at_bs 75 rfl ?_; refine wl_op rfl (fun K' hK => ?_); refine cfo_br 75 1 _ rfl 57 1 [.slice none 0 0] HC.out rfl (by decide) (by kernel_rfl) ?_; intro h w' hg hc; clear hg; (replace HC := hide hc; clear hc); refine hK _ _ ?_; clear hK K') | (refine at_box 77 rfl ?_; refine cf_box rfl 77 _ rfl [.slice (some ⟨g, 0, none⟩) 1 1, .slice (some ⟨h, 0, none⟩) 1 1] rfl HC.out ?_; intro q w' hn hc; (replace HC := hide hc; clear hc)))
  go_ret
  refine ⟨q, rfl, some ⟨g, 0, none⟩, 1, some ⟨h, 0, none⟩, 1, [(.slice none 0 0, .slice none 0 0, [])], rfl, ?_⟩
  have H := ((HC.out.nilR 3 1).nilR 9 1)
  exact H.up2.up3
set_option maxHeartbeats 8000000 in
theorem ropen_at {w0 w : World} {q : Nat} {M : Sx} {L : List Lc} {Rs : List Rw} {Fs : List Fk} (H : QS w0 q M L Rs Fs w) (hM : M.length ≤ 64) : Calls Try.prog 28 #[.pointer (some ⟨q, 0, none⟩)] w (fun e w' => (e = .returned (.int .i64 (if M.length = 64 then 4 else 0))) ∧ QS w0 q (if M.length = 64 then M else [] :: M) L Rs Fs w') := by
  obtain ⟨dn, cn, df, cf, V, hV, H⟩ := H
  have HC := hide H
  obtain ⟨n, hn⟩ : ∃ n, M.length = n := ⟨_, rfl⟩
  unfold QC at HC
  rw [hn] at HC hM ⊢
  have HV := hide hV
  have HN := hide hn
  by_cases h64 : n = 64
  · rw [if_pos h64, if_pos h64]
    have k1 : (n : Int) = 64 := by omega
    have k2 : ((n : Int) == 64) = true := by simp [k1]
    clear H hM hn h64 hV k1
    go_enter Try.func28, Try.ntmps28
    go_wp2_with (refine at_load 72 rfl ?_; refine wl_load_c rfl 72 _ rfl tcTSS rfl HC.out.cx (by repeat (first | exact List.Mem.head _ | apply List.Mem.tail)) (by repeat (first | exact GetS.cons _ (GetS.nil _) | apply GetS.skip)) ?_)
    go_ret
    refine ⟨rfl, dn, cn, df, cf, V, HV.out, ?_⟩
    rw [HN.out]
    exact HC.out
  · rw [if_neg h64, if_neg h64]
    have k1 : ((n : Int) == 64) = false := by simp; omega
    have HN9 := hide (show n ≤ 900000 by omega)
    clear H hn h64 hV hM
    go_enter Try.func28, Try.ntmps28
    go_upto_region 5 with (refine at_load 72 rfl ?_; refine wl_load_c rfl 72 _ rfl tcTSS rfl HC.out.cx (by repeat (first | exact List.Mem.head _ | apply List.Mem.tail)) (by repeat (first | exact GetS.cons _ (GetS.nil _) | apply GetS.skip)) ?_)
    replace HC := hide (HC.out.g (d1_g _)); refine wp_region_inN (fun W => W.cell? ⟨q, 0, none⟩ = some (.slice dn n cn) ∧ W.cell? ⟨q, 1, none⟩ = some (.slice df n cf)) [16, 19] (Pn.of [(1, 0), (0, 1), (1, 2), (1, 3), (1, 4), (1, 5), (1, 8), (1, 9), (1, 10), (1, 11)] (.fork 6 (Pn.of [] (.fork 7 (Pn.of [(2, 12), (2, 13), (1, 14), (1, 15), (2, 16), (0, 17), (0, 18), (2, 19)] .nil) 12 (Pn.of [(2, 7), (2, 13), (1, 14), (1, 15), (2, 16), (0, 17), (0, 18), (2, 19)] .nil))) 12 (Pn.of [(2, 6), (2, 7), (2, 13), (1, 14), (1, 15), (2, 16), (0, 17), (0, 18), (2, 19)] .nil))) (by kernel_rfl) (by kernel_rfl) (by kernel_rfl) (by kernel_rfl) (fun _ _ d _ _ h => by cases d <;> exact h) ⟨cf_cell HC.out (by repeat (first | exact List.Mem.head _ | apply List.Mem.tail)) (by repeat (first | exact GetS.cons _ (GetS.nil _) | apply GetS.skip)), cf_cell HC.out (by repeat (first | exact List.Mem.head _ | apply List.Mem.tail)) (by repeat (first | exact GetS.cons _ (GetS.nil _) | apply GetS.skip))⟩ ?_
    (refine inN_read (v := ?_) rfl (Or.inl ⟨by rfl, ?_⟩) ?_; rotate_left 1; (focus (intro W hSW; clear hSW; go_simp; (try (with_reducible rfl)))); (try simp only [Act.put, List.getElem_toArray, List.getElem_cons_zero, List.getElem_cons_succ, List.setIfInBounds_toArray, List.set_cons_zero, List.set_cons_succ]))
    (refine inN_pure (v := ?_) rfl (Or.inl ⟨by rfl, ?_⟩) ?_; rotate_left 1; (focus (intro W hSW; clear hSW; go_simp; (try (with_reducible rfl)))); (try simp only [Act.put, List.getElem_toArray, List.getElem_cons_zero, List.getElem_cons_succ, List.setIfInBounds_toArray, List.set_cons_zero, List.set_cons_succ]))
    (refine inN_read (v := ?_) rfl (Or.inl ⟨by rfl, ?_⟩) ?_; rotate_left 1; (focus (intro W hSW; clear hSW; go_simp; (try (with_reducible rfl)))); (try simp only [Act.put, List.getElem_toArray, List.getElem_cons_zero, List.getElem_cons_succ, List.setIfInBounds_toArray, List.set_cons_zero, List.set_cons_succ]))
    (refine inN_read (v := ?_) rfl (Or.inl ⟨by rfl, ?_⟩) ?_; rotate_left 1; (focus (intro W hSW; clear hSW; go_simp; (try (with_reducible rfl)))); (try simp only [Act.put, List.getElem_toArray, List.getElem_cons_zero, List.getElem_cons_succ, List.setIfInBounds_toArray, List.set_cons_zero, List.set_cons_succ]))
    (refine inN_read (v := ?_) rfl (Or.inl ⟨by rfl, ?_⟩) ?_; rotate_left 1; (focus (intro W hSW; clear hSW; go_simp; (try (with_reducible rfl)))); (try simp only [Act.put, List.getElem_toArray, List.getElem_cons_zero, List.getElem_cons_succ, List.setIfInBounds_toArray, List.set_cons_zero, List.set_cons_succ]))
    (refine inN_read rfl (yl_cell tcTSS rfl rfl rfl (fun W hS => hS.1)) ?_; (try simp only [Act.put, List.getElem_toArray, List.getElem_cons_zero, List.getElem_cons_succ, List.setIfInBounds_toArray, List.set_cons_zero, List.set_cons_succ]))
    (refine inN_read (v := ?_) rfl (Or.inl ⟨by rfl, ?_⟩) ?_; rotate_left 1; (focus (intro W hSW; clear hSW; go_simp; (try (with_reducible rfl)))); (try simp only [Act.put, List.getElem_toArray, List.getElem_cons_zero, List.getElem_cons_succ, List.setIfInBounds_toArray, List.set_cons_zero, List.set_cons_succ]))
    (refine inN_read (v := ?_) rfl (Or.inl ⟨by rfl, ?_⟩) ?_; rotate_left 1; (focus (intro W hSW; clear hSW; go_simp; (try (with_reducible rfl)))); (try simp only [Act.put, List.getElem_toArray, List.getElem_cons_zero, List.getElem_cons_succ, List.setIfInBounds_toArray, List.set_cons_zero, List.set_cons_succ]))
    (refine inN_read (v := ?_) rfl (Or.inl ⟨by rfl, ?_⟩) ?_; rotate_left 1; (focus (intro W hSW; clear hSW; go_simp; (try (with_reducible rfl)))); (try simp only [Act.put, List.getElem_toArray, List.getElem_cons_zero, List.getElem_cons_succ, List.setIfInBounds_toArray, List.set_cons_zero, List.set_cons_succ]))
    (refine inN_read rfl (yl_cell tcTII rfl rfl rfl (fun W hS => hS.2)) ?_; (try simp only [Act.put, List.getElem_toArray, List.getElem_cons_zero, List.getElem_cons_succ, List.setIfInBounds_toArray, List.set_cons_zero, List.set_cons_succ]))
    refine inN_fork rfl rfl rfl rfl (fun K' hK => ?_) (fun K' hK => ?_)
    · refine cfo_bl 72 1 _ rfl 54 [.slice none 0 0] HC.out (by kernel_rfl) ?_; intro bb w' hn hg hc; clear hg hn; (replace HC := hide hc; clear hc); refine hK _ _ (.inr (fun _ => ⟨cf_cell HC.out (by repeat (first | exact List.Mem.head _ | apply List.Mem.tail)) (by repeat (first | exact GetS.cons _ (GetS.nil _) | apply GetS.skip)), cf_cell HC.out (by repeat (first | exact List.Mem.head _ | apply List.Mem.tail)) (by repeat (first | exact GetS.cons _ (GetS.nil _) | apply GetS.skip))⟩)) ?_; clear hK K'; (try simp only [Act.put, List.getElem_toArray, List.getElem_cons_zero, List.getElem_cons_succ, List.setIfInBounds_toArray, List.set_cons_zero, List.set_cons_succ])
      refine inN_fork rfl rfl rfl rfl (fun K' hK => ?_) (fun K' hK => ?_)
      · (first | refine cfo_ap (v := .slice dn n cn) _ _ rfl Try.underlying72 infoTS (by decide) (by decide) rfl rfl HC.out rfl rfl HN9.out ?_ | refine cfo_ap (v := .slice dn n cn) _ _ rfl Try.underlying72 infoTS (by decide) (by decide) rfl rfl HC.out.swapL rfl rfl HN9.out ?_); intro d8 c8 w' hg hc; clear hg; (replace HC := hide hc; clear hc); refine hK _ _ (.inr (fun _ => ⟨cf_cell HC.out (by repeat (first | exact List.Mem.head _ | apply List.Mem.tail)) (by repeat (first | exact GetS.cons _ (GetS.nil _) | apply GetS.skip)), cf_cell HC.out (by repeat (first | exact List.Mem.head _ | apply List.Mem.tail)) (by repeat (first | exact GetS.cons _ (GetS.nil _) | apply GetS.skip))⟩)) ?_; clear hK K'; (try simp only [Act.put, List.getElem_toArray, List.getElem_cons_zero, List.getElem_cons_succ, List.setIfInBounds_toArray, List.set_cons_zero, List.set_cons_succ])
        refine inN_act rfl rfl (fun K' hK => ?_); refine cfo_bl 75 1 _ rfl 57 [.slice none 0 0] HC.out (by kernel_rfl) ?_; intro bi w' hn hg hc; clear hg hn; (replace HC := hide hc; clear hc); refine hK _ _ (.inr (fun _ => ⟨cf_cell HC.out (by repeat (first | exact List.Mem.head _ | apply List.Mem.tail)) (by repeat (first | exact GetS.cons _ (GetS.nil _) | apply GetS.skip)), cf_cell HC.out (by repeat (first | exact List.Mem.head _ | apply List.Mem.tail)) (by repeat (first | exact GetS.cons _ (GetS.nil _) | apply GetS.skip))⟩)) ?_; clear hK K'; (try simp only [Act.put, List.getElem_toArray, List.getElem_cons_zero, List.getElem_cons_succ, List.setIfInBounds_toArray, List.set_cons_zero, List.set_cons_succ])
        refine inN_act rfl rfl (fun K' hK => ?_); (first | refine cfo_ap (v := .slice df n cf) _ _ rfl Try.underlying75 infoTI (by decide) (by decide) rfl rfl HC.out.swapR rfl rfl HN9.out ?_ | refine cfo_ap (v := .slice df n cf) _ _ rfl Try.underlying75 infoTI (by decide) (by decide) rfl rfl HC.out.swapL.swapR rfl rfl HN9.out ?_); intro d9 c9 w' hg hc; clear hg; (replace HC := hide hc; clear hc); replace HC := hide HC.out.swapR; refine hK _ _ (.inr (fun _ => ⟨cf_cell HC.out (by repeat (first | exact List.Mem.head _ | apply List.Mem.tail)) (by repeat (first | exact GetS.cons _ (GetS.nil _) | apply GetS.skip)), cf_cell HC.out (by repeat (first | exact List.Mem.head _ | apply List.Mem.tail)) (by repeat (first | exact GetS.cons _ (GetS.nil _) | apply GetS.skip))⟩)) ?_; clear hK K'; (try simp only [Act.put, List.getElem_toArray, List.getElem_cons_zero, List.getElem_cons_succ, List.setIfInBounds_toArray, List.set_cons_zero, List.set_cons_succ])
        (refine inN_read (v := ?_) rfl (Or.inl ⟨by rfl, ?_⟩) ?_; rotate_left 1; (focus (intro W hSW; clear hSW; go_simp; (try (with_reducible rfl)))); (try simp only [Act.put, List.getElem_toArray, List.getElem_cons_zero, List.getElem_cons_succ, List.setIfInBounds_toArray, List.set_cons_zero, List.set_cons_succ]))
        (refine inN_read (v := ?_) rfl (Or.inl ⟨by rfl, ?_⟩) ?_; rotate_left 1; (focus (intro W hSW; clear hSW; go_simp; (try (with_reducible rfl)))); (try simp only [Act.put, List.getElem_toArray, List.getElem_cons_zero, List.getElem_cons_succ, List.setIfInBounds_toArray, List.set_cons_zero, List.set_cons_succ]))
        refine inN_act rfl rfl (fun K' hK => ?_); refine cfo_store (us := [_]) 72 _ _ rfl rfl rfl tcTSS.sz rfl HC.out (by repeat (first | exact List.Mem.head _ | apply List.Mem.tail)) (by repeat (first | exact PutS.cons _ _ (PutS.nil _) | apply PutS.skip)) (by repeat (first | exact Upd.here _ _ _ | apply Upd.there)) ?_; intro w' hg hc; clear hg; (replace HC := hide hc; clear hc); refine hK _ _ (.inl rfl) ?_; clear hK K'; (try simp only [Act.put, List.getElem_toArray, List.getElem_cons_zero, List.getElem_cons_succ, List.setIfInBounds_toArray, List.set_cons_zero, List.set_cons_succ])
        (refine inN_pure (v := ?_) rfl (Or.inl ⟨by rfl, ?_⟩) ?_; rotate_left 1; (focus (intro W hSW; clear hSW; go_simp; (try (with_reducible rfl)))); (try simp only [Act.put, List.getElem_toArray, List.getElem_cons_zero, List.getElem_cons_succ, List.setIfInBounds_toArray, List.set_cons_zero, List.set_cons_succ]))
        (refine inN_pure (v := ?_) rfl (Or.inl ⟨by rfl, ?_⟩) ?_; rotate_left 1; (focus (intro W hSW; clear hSW; go_simp; (try (with_reducible rfl)))); (try simp only [Act.put, List.getElem_toArray, List.getElem_cons_zero, List.getElem_cons_succ, List.setIfInBounds_toArray, List.set_cons_zero, List.set_cons_succ]))
        refine inN_act rfl rfl (fun K' hK => ?_); refine cfo_store (us := [_]) 75 _ _ rfl rfl rfl tcTII.sz rfl HC.out (by repeat (first | exact List.Mem.head _ | apply List.Mem.tail)) (by repeat (first | exact PutS.cons _ _ (PutS.nil _) | apply PutS.skip)) (by repeat (first | exact Upd.here _ _ _ | apply Upd.there)) ?_; intro w' hg hc; clear hg; (replace HC := hide hc; clear hc); refine hK _ _ (.inl rfl) ?_; clear hK K'; (try simp only [Act.put, List.getElem_toArray, List.getElem_cons_zero, List.getElem_cons_succ, List.setIfInBounds_toArray, List.set_cons_zero, List.set_cons_succ])
        refine inN_end ?_; (go_wp2; go_ret; refine ⟨rfl, d8, c8, d9, c9, (.slice none 0 0, .slice none 0 0, []) :: V, (by show [] :: modQ V = [] :: M; rw [HV.out]), ?_⟩; rw [List.length_cons, HN.out]; have H := ((HC.out.nilR 3 1).nilR 9 1).up2.up3.swapR; unfold QC; rw [fstQ_cons, sndQ_cons]; exact H)
      · refine cfo_bl 75 1 _ rfl 57 [.slice none 0 0] HC.out (by kernel_rfl) ?_; intro bi w' hn hg hc; clear hg hn; (replace HC := hide hc; clear hc); refine hK _ _ (.inr (fun _ => ⟨cf_cell HC.out (by repeat (first | exact List.Mem.head _ | apply List.Mem.tail)) (by repeat (first | exact GetS.cons _ (GetS.nil _) | apply GetS.skip)), cf_cell HC.out (by repeat (first | exact List.Mem.head _ | apply List.Mem.tail)) (by repeat (first | exact GetS.cons _ (GetS.nil _) | apply GetS.skip))⟩)) ?_; clear hK K'; (try simp only [Act.put, List.getElem_toArray, List.getElem_cons_zero, List.getElem_cons_succ, List.setIfInBounds_toArray, List.set_cons_zero, List.set_cons_succ])
        refine inN_act rfl rfl (fun K' hK => ?_); (first | refine cfo_ap (v := .slice dn n cn) _ _ rfl Try.underlying72 infoTS (by decide) (by decide) rfl rfl HC.out rfl rfl HN9.out ?_ | refine cfo_ap (v := .slice dn n cn) _ _ rfl Try.underlying72 infoTS (by decide) (by decide) rfl rfl HC.out.swapL rfl rfl HN9.out ?_); intro d8 c8 w' hg hc; clear hg; (replace HC := hide hc; clear hc); refine hK _ _ (.inr (fun _ => ⟨cf_cell HC.out (by repeat (first | exact List.Mem.head _ | apply List.Mem.tail)) (by repeat (first | exact GetS.cons _ (GetS.nil _) | apply GetS.skip)), cf_cell HC.out (by repeat (first | exact List.Mem.head _ | apply List.Mem.tail)) (by repeat (first | exact GetS.cons _ (GetS.nil _) | apply GetS.skip))⟩)) ?_; clear hK K'; (try simp only [Act.put, List.getElem_toArray, List.getElem_cons_zero, List.getElem_cons_succ, List.setIfInBounds_toArray, List.set_cons_zero, List.set_cons_succ])
        refine inN_act rfl rfl (fun K' hK => ?_); (first | refine cfo_ap (v := .slice df n cf) _ _ rfl Try.underlying75 infoTI (by decide) (by decide) rfl rfl HC.out.swapR rfl rfl HN9.out ?_ | refine cfo_ap (v := .slice df n cf) _ _ rfl Try.underlying75 infoTI (by decide) (by decide) rfl rfl HC.out.swapL.swapR rfl rfl HN9.out ?_); intro d9 c9 w' hg hc; clear hg; (replace HC := hide hc; clear hc); replace HC := hide HC.out.swapR; refine hK _ _ (.inr (fun _ => ⟨cf_cell HC.out (by repeat (first | exact List.Mem.head _ | apply List.Mem.tail)) (by repeat (first | exact GetS.cons _ (GetS.nil _) | apply GetS.skip)), cf_cell HC.out (by repeat (first | exact List.Mem.head _ | apply List.Mem.tail)) (by repeat (first | exact GetS.cons _ (GetS.nil _) | apply GetS.skip))⟩)) ?_; clear hK K'; (try simp only [Act.put, List.getElem_toArray, List.getElem_cons_zero, List.getElem_cons_succ, List.setIfInBounds_toArray, List.set_cons_zero, List.set_cons_succ])
        (refine inN_read (v := ?_) rfl (Or.inl ⟨by rfl, ?_⟩) ?_; rotate_left 1; (focus (intro W hSW; clear hSW; go_simp; (try (with_reducible rfl)))); (try simp only [Act.put, List.getElem_toArray, List.getElem_cons_zero, List.getElem_cons_succ, List.setIfInBounds_toArray, List.set_cons_zero, List.set_cons_succ]))
        (refine inN_read (v := ?_) rfl (Or.inl ⟨by rfl, ?_⟩) ?_; rotate_left 1; (focus (intro W hSW; clear hSW; go_simp; (try (with_reducible rfl)))); (try simp only [Act.put, List.getElem_toArray, List.getElem_cons_zero, List.getElem_cons_succ, List.setIfInBounds_toArray, List.set_cons_zero, List.set_cons_succ]))
        refine inN_act rfl rfl (fun K' hK => ?_); refine cfo_store (us := [_]) 72 _ _ rfl rfl rfl tcTSS.sz rfl HC.out (by repeat (first | exact List.Mem.head _ | apply List.Mem.tail)) (by repeat (first | exact PutS.cons _ _ (PutS.nil _) | apply PutS.skip)) (by repeat (first | exact Upd.here _ _ _ | apply Upd.there)) ?_; intro w' hg hc; clear hg; (replace HC := hide hc; clear hc); refine hK _ _ (.inl rfl) ?_; clear hK K'; (try simp only [Act.put, List.getElem_toArray, List.getElem_cons_zero, List.getElem_cons_succ, List.setIfInBounds_toArray, List.set_cons_zero, List.set_cons_succ])
        (refine inN_pure (v := ?_) rfl (Or.inl ⟨by rfl, ?_⟩) ?_; rotate_left 1; (focus (intro W hSW; clear hSW; go_simp; (try (with_reducible rfl)))); (try simp only [Act.put, List.getElem_toArray, List.getElem_cons_zero, List.getElem_cons_succ, List.setIfInBounds_toArray, List.set_cons_zero, List.set_cons_succ]))
        (refine inN_pure (v := ?_) rfl (Or.inl ⟨by rfl, ?_⟩) ?_; rotate_left 1; (focus (intro W hSW; clear hSW; go_simp; (try (with_reducible rfl)))); (try simp only [Act.put, List.getElem_toArray, List.getElem_cons_zero, List.getElem_cons_succ, List.setIfInBounds_toArray, List.set_cons_zero, List.set_cons_succ]))
        refine inN_act rfl rfl (fun K' hK => ?_); refine cfo_store (us := [_]) 75 _ _ rfl rfl rfl tcTII.sz rfl HC.out (by repeat (first | exact List.Mem.head _ | apply List.Mem.tail)) (by repeat (first | exact PutS.cons _ _ (PutS.nil _) | apply PutS.skip)) (by repeat (first | exact Upd.here _ _ _ | apply Upd.there)) ?_; intro w' hg hc; clear hg; (replace HC := hide hc; clear hc); refine hK _ _ (.inl rfl) ?_; clear hK K'; (try simp only [Act.put, List.getElem_toArray, List.getElem_cons_zero, List.getElem_cons_succ, List.setIfInBounds_toArray, List.set_cons_zero, List.set_cons_succ])
        refine inN_end ?_; (go_wp2; go_ret; refine ⟨rfl, d8, c8, d9, c9, (.slice none 0 0, .slice none 0 0, []) :: V, (by show [] :: modQ V = [] :: M; rw [HV.out]), ?_⟩; rw [List.length_cons, HN.out]; have H := ((HC.out.nilR 3 1).nilR 9 1).up2.up3.swapR; unfold QC; rw [fstQ_cons, sndQ_cons]; exact H)
    · refine cfo_bl 75 1 _ rfl 57 [.slice none 0 0] HC.out (by kernel_rfl) ?_; intro bi w' hn hg hc; clear hg hn; (replace HC := hide hc; clear hc); refine hK _ _ (.inr (fun _ => ⟨cf_cell HC.out (by repeat (first | exact List.Mem.head _ | apply List.Mem.tail)) (by repeat (first | exact GetS.cons _ (GetS.nil _) | apply GetS.skip)), cf_cell HC.out (by repeat (first | exact List.Mem.head _ | apply List.Mem.tail)) (by repeat (first | exact GetS.cons _ (GetS.nil _) | apply GetS.skip))⟩)) ?_; clear hK K'; (try simp only [Act.put, List.getElem_toArray, List.getElem_cons_zero, List.getElem_cons_succ, List.setIfInBounds_toArray, List.set_cons_zero, List.set_cons_succ])
      refine inN_act rfl rfl (fun K' hK => ?_); refine cfo_bl 72 1 _ rfl 54 [.slice none 0 0] HC.out (by kernel_rfl) ?_; intro bb w' hn hg hc; clear hg hn; (replace HC := hide hc; clear hc); refine hK _ _ (.inr (fun _ => ⟨cf_cell HC.out (by repeat (first | exact List.Mem.head _ | apply List.Mem.tail)) (by repeat (first | exact GetS.cons _ (GetS.nil _) | apply GetS.skip)), cf_cell HC.out (by repeat (first | exact List.Mem.head _ | apply List.Mem.tail)) (by repeat (first | exact GetS.cons _ (GetS.nil _) | apply GetS.skip))⟩)) ?_; clear hK K'; (try simp only [Act.put, List.getElem_toArray, List.getElem_cons_zero, List.getElem_cons_succ, List.setIfInBounds_toArray, List.set_cons_zero, List.set_cons_succ])
      refine inN_act rfl rfl (fun K' hK => ?_); (first | refine cfo_ap (v := .slice dn n cn) _ _ rfl Try.underlying72 infoTS (by decide) (by decide) rfl rfl HC.out rfl rfl HN9.out ?_ | refine cfo_ap (v := .slice dn n cn) _ _ rfl Try.underlying72 infoTS (by decide) (by decide) rfl rfl HC.out.swapL rfl rfl HN9.out ?_); intro d8 c8 w' hg hc; clear hg; (replace HC := hide hc; clear hc); refine hK _ _ (.inr (fun _ => ⟨cf_cell HC.out (by repeat (first | exact List.Mem.head _ | apply List.Mem.tail)) (by repeat (first | exact GetS.cons _ (GetS.nil _) | apply GetS.skip)), cf_cell HC.out (by repeat (first | exact List.Mem.head _ | apply List.Mem.tail)) (by repeat (first | exact GetS.cons _ (GetS.nil _) | apply GetS.skip))⟩)) ?_; clear hK K'; (try simp only [Act.put, List.getElem_toArray, List.getElem_cons_zero, List.getElem_cons_succ, List.setIfInBounds_toArray, List.set_cons_zero, List.set_cons_succ])
      refine inN_act rfl rfl (fun K' hK => ?_); (first | refine cfo_ap (v := .slice df n cf) _ _ rfl Try.underlying75 infoTI (by decide) (by decide) rfl rfl HC.out.swapR rfl rfl HN9.out ?_ | refine cfo_ap (v := .slice df n cf) _ _ rfl Try.underlying75 infoTI (by decide) (by decide) rfl rfl HC.out.swapL.swapR rfl rfl HN9.out ?_); intro d9 c9 w' hg hc; clear hg; (replace HC := hide hc; clear hc); replace HC := hide HC.out.swapR; refine hK _ _ (.inr (fun _ => ⟨cf_cell HC.out (by repeat (first | exact List.Mem.head _ | apply List.Mem.tail)) (by repeat (first | exact GetS.cons _ (GetS.nil _) | apply GetS.skip)), cf_cell HC.out (by repeat (first | exact List.Mem.head _ | apply List.Mem.tail)) (by repeat (first | exact GetS.cons _ (GetS.nil _) | apply GetS.skip))⟩)) ?_; clear hK K'; (try simp only [Act.put, List.getElem_toArray, List.getElem_cons_zero, List.getElem_cons_succ, List.setIfInBounds_toArray, List.set_cons_zero, List.set_cons_succ])
      (refine inN_read (v := ?_) rfl (Or.inl ⟨by rfl, ?_⟩) ?_; rotate_left 1; (focus (intro W hSW; clear hSW; go_simp; (try (with_reducible rfl)))); (try simp only [Act.put, List.getElem_toArray, List.getElem_cons_zero, List.getElem_cons_succ, List.setIfInBounds_toArray, List.set_cons_zero, List.set_cons_succ]))
      (refine inN_read (v := ?_) rfl (Or.inl ⟨by rfl, ?_⟩) ?_; rotate_left 1; (focus (intro W hSW; clear hSW; go_simp; (try (with_reducible rfl)))); (try simp only [Act.put, List.getElem_toArray, List.getElem_cons_zero, List.getElem_cons_succ, List.setIfInBounds_toArray, List.set_cons_zero, List.set_cons_succ]))
      refine inN_act rfl rfl (fun K' hK => ?_); refine cfo_store (us := [_]) 72 _ _ rfl rfl rfl tcTSS.sz rfl HC.out (by repeat (first | exact List.Mem.head _ | apply List.Mem.tail)) (by repeat (first | exact PutS.cons _ _ (PutS.nil _) | apply PutS.skip)) (by repeat (first | exact Upd.here _ _ _ | apply Upd.there)) ?_; intro w' hg hc; clear hg; (replace HC := hide hc; clear hc); refine hK _ _ (.inl rfl) ?_; clear hK K'; (try simp only [Act.put, List.getElem_toArray, List.getElem_cons_zero, List.getElem_cons_succ, List.setIfInBounds_toArray, List.set_cons_zero, List.set_cons_succ])
      (refine inN_pure (v := ?_) rfl (Or.inl ⟨by rfl, ?_⟩) ?_; rotate_left 1; (focus (intro W hSW; clear hSW; go_simp; (try (with_reducible rfl)))); (try simp only [Act.put, List.getElem_toArray, List.getElem_cons_zero, List.getElem_cons_succ, List.setIfInBounds_toArray, List.set_cons_zero, List.set_cons_succ]))
      (refine inN_pure (v := ?_) rfl (Or.inl ⟨by rfl, ?_⟩) ?_; rotate_left 1; (focus (intro W hSW; clear hSW; go_simp; (try (with_reducible rfl)))); (try simp only [Act.put, List.getElem_toArray, List.getElem_cons_zero, List.getElem_cons_succ, List.setIfInBounds_toArray, List.set_cons_zero, List.set_cons_succ]))
      refine inN_act rfl rfl (fun K' hK => ?_); refine cfo_store (us := [_]) 75 _ _ rfl rfl rfl tcTII.sz rfl HC.out (by repeat (first | exact List.Mem.head _ | apply List.Mem.tail)) (by repeat (first | exact PutS.cons _ _ (PutS.nil _) | apply PutS.skip)) (by repeat (first | exact Upd.here _ _ _ | apply Upd.there)) ?_; intro w' hg hc; clear hg; (replace HC := hide hc; clear hc); refine hK _ _ (.inl rfl) ?_; clear hK K'; (try simp only [Act.put, List.getElem_toArray, List.getElem_cons_zero, List.getElem_cons_succ, List.setIfInBounds_toArray, List.set_cons_zero, List.set_cons_succ])
      refine inN_end ?_; (go_wp2; go_ret; refine ⟨rfl, d8, c8, d9, c9, (.slice none 0 0, .slice none 0 0, []) :: V, (by show [] :: modQ V = [] :: M; rw [HV.out]), ?_⟩; rw [List.length_cons, HN.out]; have H := ((HC.out.nilR 3 1).nilR 9 1).up2.up3.swapR; unfold QC; rw [fstQ_cons, sndQ_cons]; exact H)
set_option maxHeartbeats 8000000 in
theorem rclose_at {w0 w : World} {q : Nat} {l : Lv1} {r : Sx} {L : List Lc} {Rs : List Rw} {Fs : List Fk} (H : QS w0 q (l :: r) L Rs Fs w) (hM : r.length < 64) : Calls Try.prog 30 #[.pointer (some ⟨q, 0, none⟩)] w (fun e w' => e = .returned (.bool (decide (r ≠ []))) ∧ QS w0 q (clsM (l :: r)) L Rs Fs w') := by
  have HP := hide H
  have HM := hide (show (l :: r).length ≤ 64 by simp; omega)
  obtain ⟨m, hm⟩ : ∃ m, r.length = m := ⟨_, rfl⟩
  have HDm := hide (show (((l :: r).length : Nat) : Int) - 1 = (m : Int) by simp; omega)
  by_cases h0 : m = 0
  · have e0 : r = [] := List.length_eq_zero_iff.1 (by omega)
    subst e0
    have m9 : (m : Int) < 1 := by omega
    clear H hM h0 hm
    go_enter Try.func30, Try.ntmps30
    go_wp2_with (go_at_call 37; refine (rdepth_at HP.out HM.out).mono ?_; rw [HDm.out]; rintro e w' ⟨rfl, hw⟩; replace hw := hw.symm; subst hw)
    go_ret
    exact ⟨rfl, HP.out⟩
  · have hne : r ≠ [] := fun e => h0 (by rw [← hm, e]; rfl)
    rw [show decide (r ≠ []) = true by simpa using hne]
    have hcl : clsM (l :: r) = r := by
      cases r with
      | nil => exact absurd rfl hne
      | cons a t => rfl
    rw [hcl]
    have m9 : ¬ (m : Int) < 1 := by omega
    obtain ⟨dn, cn, df, cf, V, hV, H⟩ := H
    obtain ⟨n, hn⟩ : ∃ n, (l :: r).length = n := ⟨_, rfl⟩
    rw [hn] at H
    have hn2 : n = m + 1 := by rw [← hn, ← hm]; rfl
    obtain ⟨g, rfl, k1, k2⟩ := own_at (H.cx.row _ (.head _)) (by omega)
    obtain ⟨h, rfl, k3, k4⟩ := own_at (H.cx.row _ (.tail _ (.head _))) (by omega)
    have m1 : (m : Int) ≤ cn := by omega
    have m2 : (m : Int) ≤ cf := by omega
    have m3 : (m : Int) ≤ n := by omega
    have m4 : (cn : Int) ≤ 9223372036854775807 := by unfold maxLen at k2; omega
    have m5 : (cf : Int) ≤ 9223372036854775807 := by unfold maxLen at k4; omega
    have m6 : m ≤ cn := by omega
    have m7 : m ≤ cf := by omega
    have HC := hide H
    have HV := hide hV
    have Hm := hide hm
    have Hmn := hide (show m ≤ n by omega)
    clear H hM h0 hm hne hcl hn hn2 k1 k2 k3 k4 hV
    go_enter Try.func30, Try.ntmps30
    go_upto_region 4 with (go_at_call 37; refine (rdepth_at HP.out HM.out).mono ?_; rw [HDm.out]; rintro e w' ⟨rfl, hw⟩; replace hw := hw.symm; subst hw)
    replace HC := hide (HC.out.g (d1_g _)); refine wp_region_inN (fun W => W.cell? ⟨q, 0, none⟩ = some (.slice (some ⟨g, 0, none⟩) n cn) ∧ W.cell? ⟨q, 1, none⟩ = some (.slice (some ⟨h, 0, none⟩) n cf)) [16, 19] (Pn.of [(1, 0), (0, 1), (1, 2), (1, 3), (1, 4), (1, 5), (1, 6), (1, 7), (1, 8), (1, 9), (1, 10), (1, 11), (0, 12), (0, 13), (1, 14), (1, 15), (2, 16), (0, 17), (0, 18), (2, 19)] .nil) (by kernel_rfl) (by kernel_rfl) (by kernel_rfl) (by kernel_rfl) (fun _ _ d _ _ h => by cases d <;> exact h) ⟨cf_cell HC.out (by repeat (first | exact List.Mem.head _ | apply List.Mem.tail)) (by repeat (first | exact GetS.cons _ (GetS.nil _) | apply GetS.skip)), cf_cell HC.out (by repeat (first | exact List.Mem.head _ | apply List.Mem.tail)) (by repeat (first | exact GetS.cons _ (GetS.nil _) | apply GetS.skip))⟩ ?_
    (refine inN_read (v := ?_) rfl (Or.inl ⟨by rfl, ?_⟩) ?_; rotate_left 1; (focus (intro W hSW; clear hSW; go_simp; (try (with_reducible rfl)))); (try simp only [Act.put, List.getElem_toArray, List.getElem_cons_zero, List.getElem_cons_succ, List.setIfInBounds_toArray, List.set_cons_zero, List.set_cons_succ]))
    (refine inN_pure (v := ?_) rfl (Or.inl ⟨by rfl, ?_⟩) ?_; rotate_left 1; (focus (intro W hSW; clear hSW; go_simp; (try (with_reducible rfl)))); (try simp only [Act.put, List.getElem_toArray, List.getElem_cons_zero, List.getElem_cons_succ, List.setIfInBounds_toArray, List.set_cons_zero, List.set_cons_succ]))
    (refine inN_read (v := ?_) rfl (Or.inl ⟨by rfl, ?_⟩) ?_; rotate_left 1; (focus (intro W hSW; clear hSW; go_simp; (try (with_reducible rfl)))); (try simp only [Act.put, List.getElem_toArray, List.getElem_cons_zero, List.getElem_cons_succ, List.setIfInBounds_toArray, List.set_cons_zero, List.set_cons_succ]))
    (refine inN_read (v := ?_) rfl (Or.inl ⟨by rfl, ?_⟩) ?_; rotate_left 1; (focus (intro W hSW; clear hSW; go_simp; (try (with_reducible rfl)))); (try simp only [Act.put, List.getElem_toArray, List.getElem_cons_zero, List.getElem_cons_succ, List.setIfInBounds_toArray, List.set_cons_zero, List.set_cons_succ]))
    (refine inN_read (v := ?_) rfl (Or.inl ⟨by rfl, ?_⟩) ?_; rotate_left 1; (focus (intro W hSW; clear hSW; go_simp; (try (with_reducible rfl)))); (try simp only [Act.put, List.getElem_toArray, List.getElem_cons_zero, List.getElem_cons_succ, List.setIfInBounds_toArray, List.set_cons_zero, List.set_cons_succ]))
    (refine inN_read rfl (yl_cell tcTSS rfl rfl rfl (fun W hS => hS.1)) ?_; (try simp only [Act.put, List.getElem_toArray, List.getElem_cons_zero, List.getElem_cons_succ, List.setIfInBounds_toArray, List.set_cons_zero, List.set_cons_succ]))
    (refine inN_read (v := ?_) rfl (Or.inl ⟨by rfl, ?_⟩) ?_; rotate_left 1; (focus (intro W hSW; clear hSW; go_simp; (try (with_reducible rfl)))); (try simp only [Act.put, List.getElem_toArray, List.getElem_cons_zero, List.getElem_cons_succ, List.setIfInBounds_toArray, List.set_cons_zero, List.set_cons_succ]))
    (refine inN_read (v := ?_) rfl (Or.inl ⟨by rfl, ?_⟩) ?_; rotate_left 1; (focus (intro W hSW; clear hSW; go_simp; (try (with_reducible rfl)))); (try simp only [Act.put, List.getElem_toArray, List.getElem_cons_zero, List.getElem_cons_succ, List.setIfInBounds_toArray, List.set_cons_zero, List.set_cons_succ]))
    (refine inN_read (v := ?_) rfl (Or.inl ⟨by rfl, ?_⟩) ?_; rotate_left 1; (focus (intro W hSW; clear hSW; go_simp; (try (with_reducible rfl)))); (try simp only [Act.put, List.getElem_toArray, List.getElem_cons_zero, List.getElem_cons_succ, List.setIfInBounds_toArray, List.set_cons_zero, List.set_cons_succ]))
    (refine inN_read (v := ?_) rfl (Or.inl ⟨by rfl, ?_⟩) ?_; rotate_left 1; (focus (intro W hSW; clear hSW; go_simp; (try (with_reducible rfl)))); (try simp only [Act.put, List.getElem_toArray, List.getElem_cons_zero, List.getElem_cons_succ, List.setIfInBounds_toArray, List.set_cons_zero, List.set_cons_succ]))
    (refine inN_read (v := ?_) rfl (Or.inl ⟨by rfl, ?_⟩) ?_; rotate_left 1; (focus (intro W hSW; clear hSW; go_simp; (try (with_reducible rfl)))); (try simp only [Act.put, List.getElem_toArray, List.getElem_cons_zero, List.getElem_cons_succ, List.setIfInBounds_toArray, List.set_cons_zero, List.set_cons_succ]))
    (refine inN_read rfl (yl_cell tcTII rfl rfl rfl (fun W hS => hS.2)) ?_; (try simp only [Act.put, List.getElem_toArray, List.getElem_cons_zero, List.getElem_cons_succ, List.setIfInBounds_toArray, List.set_cons_zero, List.set_cons_succ]))
    (refine inN_pure (v := ?_) rfl (Or.inl ⟨by rfl, ?_⟩) ?_; rotate_left 1; (focus (intro W hSW; clear hSW; go_simp; (try (with_reducible rfl)))); (try simp only [Act.put, List.getElem_toArray, List.getElem_cons_zero, List.getElem_cons_succ, List.setIfInBounds_toArray, List.set_cons_zero, List.set_cons_succ]))
    (refine inN_pure (v := ?_) rfl (Or.inl ⟨by rfl, ?_⟩) ?_; rotate_left 1; (focus (intro W hSW; clear hSW; go_simp; (try (with_reducible rfl)))); (try simp only [Act.put, List.getElem_toArray, List.getElem_cons_zero, List.getElem_cons_succ, List.setIfInBounds_toArray, List.set_cons_zero, List.set_cons_succ]))
    (refine inN_read (v := ?_) rfl (Or.inl ⟨by rfl, ?_⟩) ?_; rotate_left 1; (focus (intro W hSW; clear hSW; go_simp; (try (with_reducible rfl)))); (try simp only [Act.put, List.getElem_toArray, List.getElem_cons_zero, List.getElem_cons_succ, List.setIfInBounds_toArray, List.set_cons_zero, List.set_cons_succ]))
    (refine inN_read (v := ?_) rfl (Or.inl ⟨by rfl, ?_⟩) ?_; rotate_left 1; (focus (intro W hSW; clear hSW; go_simp; (try (with_reducible rfl)))); (try simp only [Act.put, List.getElem_toArray, List.getElem_cons_zero, List.getElem_cons_succ, List.setIfInBounds_toArray, List.set_cons_zero, List.set_cons_succ]))
    refine inN_act rfl rfl (fun K' hK => ?_); refine cfo_store (us := [_]) 72 _ _ rfl rfl rfl tcTSS.sz rfl HC.out (by repeat (first | exact List.Mem.head _ | apply List.Mem.tail)) (by repeat (first | exact PutS.cons _ _ (PutS.nil _) | apply PutS.skip)) (by repeat (first | exact Upd.here _ _ _ | apply Upd.there)) ?_; intro w' hg hc; clear hg; (replace HC := hide hc; clear hc); refine hK _ _ (.inl rfl) ?_; clear hK K'; (try simp only [Act.put, List.getElem_toArray, List.getElem_cons_zero, List.getElem_cons_succ, List.setIfInBounds_toArray, List.set_cons_zero, List.set_cons_succ])
    (refine inN_pure (v := ?_) rfl (Or.inl ⟨by rfl, ?_⟩) ?_; rotate_left 1; (focus (intro W hSW; clear hSW; go_simp; (try (with_reducible rfl)))); (try simp only [Act.put, List.getElem_toArray, List.getElem_cons_zero, List.getElem_cons_succ, List.setIfInBounds_toArray, List.set_cons_zero, List.set_cons_succ]))
    (refine inN_pure (v := ?_) rfl (Or.inl ⟨by rfl, ?_⟩) ?_; rotate_left 1; (focus (intro W hSW; clear hSW; go_simp; (try (with_reducible rfl)))); (try simp only [Act.put, List.getElem_toArray, List.getElem_cons_zero, List.getElem_cons_succ, List.setIfInBounds_toArray, List.set_cons_zero, List.set_cons_succ]))
    refine inN_act rfl rfl (fun K' hK => ?_); refine cfo_store (us := [_]) 75 _ _ rfl rfl rfl tcTII.sz rfl HC.out (by repeat (first | exact List.Mem.head _ | apply List.Mem.tail)) (by repeat (first | exact PutS.cons _ _ (PutS.nil _) | apply PutS.skip)) (by repeat (first | exact Upd.here _ _ _ | apply Upd.there)) ?_; intro w' hg hc; clear hg; (replace HC := hide hc; clear hc); refine hK _ _ (.inl rfl) ?_; clear hK K'; (try simp only [Act.put, List.getElem_toArray, List.getElem_cons_zero, List.getElem_cons_succ, List.setIfInBounds_toArray, List.set_cons_zero, List.set_cons_succ])
    refine inN_end ?_
    go_wp2
    go_ret
    match V, HV, HC with
    | [], HV, HC => cases HV.out
    | p :: V', HV, HC =>
    have hV := HV.out
    injection hV with e1 e2
    have e2' : modQ V' = r := e2
    have hml : V'.length = m := by rw [← modQ_len, e2']; exact Hm.out
    refine ⟨rfl, some ⟨g, 0, none⟩, cn, some ⟨h, 0, none⟩, cf, V', e2', ?_⟩
    rw [Hm.out]
    have H := (((HC.out.cutR Hmn.out (by simp)).swapR.cutR Hmn.out (by simp)).swapR.up2.dropR).up2.dropR
    have q1 := set_pop (V'.map (fun p => p.1)) p.1
    have q2 := set_pop (V'.map (fun p => p.2.1)) p.2.1
    rw [List.length_map, hml] at q1 q2
    rw [Nat.mul_one, show fstQ (p :: V') = (p.1 :: V'.map (fun p => p.1)).reverse from rfl, show sndQ (p :: V') = (p.2.1 :: V'.map (fun p => p.2.1)).reverse from rfl, q1, q2] at H
    exact H
end Go.Proofs.Ytmoekalagollhaa.So
