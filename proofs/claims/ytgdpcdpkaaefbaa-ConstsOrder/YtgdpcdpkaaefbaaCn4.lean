/-
  Package consts: order and the relations by it; quotient, rest; Good; beside.
-/
import Derived.Test.YtgdpcdpkaaefbaaCn3
namespace Go.Proofs.Ytgdpcdpkaaefbaa.Cn
open Go.RowKit hiding Hid
open Go.Maps Go.Proofs.Ytgdpcdpkaaefbaa.Tx Go.Proofs.Ytgdpcdpkaaefbaa.Lx Go.Proofs.Ytgdpcdpkaaefbaa.Mp Go.Proofs.Ytgdpcdpkaaefbaa.Tr Go.Proofs.Ytgdpcdpkaaefbaa.Bits
set_option linter.unusedVariables false
set_option linter.unusedSimpArgs false
set_option maxRecDepth 100000

def ordI (a b : Vl) : Int := orI (cmI a.n b.n) (Lib.compareBytes a.t b.t)
set_option maxHeartbeats 3200000 in
theorem order_at (a b : Vl) (w : World) : Calls Try.prog 103 #[vV a, vV b] w (Told w (.int .i64 (ordI a b))) := by
  have HC := hide (Cx.start w (fun _ => False))
  obtain ⟨af, an, at_⟩ := a
  obtain ⟨bf, bn, bt⟩ := b
  unfold vV ordI
  dsimp only
  go_enter Try.func103, Try.ntmps103
  go_wp2_with (first | (refine at_box 23 rfl ?_; refine wl_box rfl 23 _ rfl _ rfl HC.out ?_; intro b w' hn hc; (replace HC := hide hc; clear hc)))
  (replace HC := hide (HC.out.g (d1_g _)); have HC0 := HC; refine wp_region_inO (fun W => World.grownBy _ W none) 99 [0, 1, 2, 3, 5, 6, 7, 8, 12] [0, 1, 2, 3, 5, 6, 7, 8, 4, 9, 10, 11, 12] (by kernel_rfl) (by kernel_rfl) (by kernel_rfl) (by kernel_rfl) (fun _ _ d _ _ h => by cases d <;> exact h) (gr_ref _ _) ?_; have HS := hide (gr_of HC.out none))
  (refine inO_read (v := ?_) rfl rfl (Or.inl ⟨by rfl, ?_⟩) ?_; rotate_left 1; (focus (intro W hSW; clear hSW; go_simp; (try (with_reducible rfl)))); (try simp only [Act.put, List.getElem_toArray, List.getElem_cons_zero, List.getElem_cons_succ, List.setIfInBounds_toArray, List.set_cons_zero, List.set_cons_succ]))
  (refine inO_read rfl rfl (yl_c tcI rfl rfl rfl HC0.out (by first | assumption | exact nx0 _) (by repeat (first | exact List.Mem.head _ | apply List.Mem.tail)) (by repeat (first | exact GetS.cons _ (GetS.nil _) | apply GetS.skip))) ?_; (try simp only [Act.put, List.getElem_toArray, List.getElem_cons_zero, List.getElem_cons_succ, List.setIfInBounds_toArray, List.set_cons_zero, List.set_cons_succ]))
  (refine inO_read (v := ?_) rfl rfl (Or.inl ⟨by rfl, ?_⟩) ?_; rotate_left 1; (focus (intro W hSW; clear hSW; go_simp; (try (with_reducible rfl)))); (try simp only [Act.put, List.getElem_toArray, List.getElem_cons_zero, List.getElem_cons_succ, List.setIfInBounds_toArray, List.set_cons_zero, List.set_cons_succ]))
  (refine inO_read rfl rfl (yl_c tcI rfl rfl rfl HC0.out (by first | assumption | exact nx0 _) (by repeat (first | exact List.Mem.head _ | apply List.Mem.tail)) (by repeat (first | exact GetS.cons _ (GetS.nil _) | apply GetS.skip))) ?_; (try simp only [Act.put, List.getElem_toArray, List.getElem_cons_zero, List.getElem_cons_succ, List.setIfInBounds_toArray, List.set_cons_zero, List.set_cons_succ]))
  (refine inO_read (v := ?_) rfl rfl (Or.inl ⟨by rfl, ?_⟩) ?_; rotate_left 1; (focus (intro W hSW; clear hSW; go_simp; (try (with_reducible rfl)))); (try simp only [Act.put, List.getElem_toArray, List.getElem_cons_zero, List.getElem_cons_succ, List.setIfInBounds_toArray, List.set_cons_zero, List.set_cons_succ]))
  (refine inO_read rfl rfl (yl_c tcT rfl rfl rfl HC0.out (by first | assumption | exact nx0 _) (by repeat (first | exact List.Mem.head _ | apply List.Mem.tail)) (by repeat (first | exact GetS.cons _ (GetS.nil _) | apply GetS.skip))) ?_; (try simp only [Act.put, List.getElem_toArray, List.getElem_cons_zero, List.getElem_cons_succ, List.setIfInBounds_toArray, List.set_cons_zero, List.set_cons_succ]))
  (refine inO_read (v := ?_) rfl rfl (Or.inl ⟨by rfl, ?_⟩) ?_; rotate_left 1; (focus (intro W hSW; clear hSW; go_simp; (try (with_reducible rfl)))); (try simp only [Act.put, List.getElem_toArray, List.getElem_cons_zero, List.getElem_cons_succ, List.setIfInBounds_toArray, List.set_cons_zero, List.set_cons_succ]))
  (refine inO_read rfl rfl (yl_c tcT rfl rfl rfl HC0.out (by first | assumption | exact nx0 _) (by repeat (first | exact List.Mem.head _ | apply List.Mem.tail)) (by repeat (first | exact GetS.cons _ (GetS.nil _) | apply GetS.skip))) ?_; (try simp only [Act.put, List.getElem_toArray, List.getElem_cons_zero, List.getElem_cons_succ, List.setIfInBounds_toArray, List.set_cons_zero, List.set_cons_succ]))
  (refine inO_act rfl rfl rfl (fun K' hK => ?_))
  go_simp
  refine (cmpi_at _ _ _).mono ?_
  rintro e w1 ⟨rfl, rfl⟩
  refine hK _ _ (.inr HS.out) ?_
  clear hK K'
  (try simp only [Act.put, List.getElem_toArray, List.getElem_cons_zero, List.getElem_cons_succ, List.setIfInBounds_toArray, List.set_cons_zero, List.set_cons_succ])
  (refine inO_act rfl rfl rfl (fun K' hK => ?_))
  go_simp
  refine (cmps_at _ _ _).mono ?_
  rintro e w1 ⟨rfl, rfl⟩
  refine hK _ _ (.inr HS.out) ?_
  clear hK K'
  (try simp only [Act.put, List.getElem_toArray, List.getElem_cons_zero, List.getElem_cons_succ, List.setIfInBounds_toArray, List.set_cons_zero, List.set_cons_succ])
  (refine inO_act rfl rfl rfl (fun K' hK => ?_))
  refine op_bl _ _ _ rfl 3 [.int .i64 (cmI an bn), .int .i64 (Lib.compareBytes at_ bt)] HC.out (by kernel_rfl) ?_
  intro b w' hn hg hc
  (replace HC := hide hc; clear hc)
  refine hK _ _ (.inr (gr_then0 HS.out hg)) ?_
  replace HS := hide (gr_then0 HS.out hg)
  clear hK K' hg
  (try simp only [Act.put, List.getElem_toArray, List.getElem_cons_zero, List.getElem_cons_succ, List.setIfInBounds_toArray, List.set_cons_zero, List.set_cons_succ])
  (refine inO_act rfl rfl rfl (fun K' hK => ?_))
  go_simp
  refine (or2_at b _ _ _ (cell_of_row _ _ _ _ _ _ (HC.out.loc _ (.head _))) (cell_of_row _ _ _ _ _ _ (HC.out.loc _ (.head _)))).mono ?_
  rintro e w1 ⟨rfl, rfl⟩
  refine hK _ _ (.inr HS.out) ?_
  clear hK K'
  (try simp only [Act.put, List.getElem_toArray, List.getElem_cons_zero, List.getElem_cons_succ, List.setIfInBounds_toArray, List.set_cons_zero, List.set_cons_succ])
  (refine inO_read (v := ?_) rfl rfl (Or.inl ⟨by rfl, ?_⟩) ?_; rotate_left 1; (focus (intro W hSW; clear hSW; go_simp; (try (with_reducible rfl)))); (try simp only [Act.put, List.getElem_toArray, List.getElem_cons_zero, List.getElem_cons_succ, List.setIfInBounds_toArray, List.set_cons_zero, List.set_cons_succ]))
  (refine inO_end ?_)
  go_wp2
  go_ret
  exact ⟨rfl, HC.out.grown⟩
set_option maxHeartbeats 1600000 in
theorem lt_at (a b : Vl) (w : World) : Calls Try.prog 102 #[vV a, vV b] w (Told w (.bool (decide (ordI a b < 0)))) := by
  have HC := hide (Cx.start w (fun _ => False))
  unfold vV
  go_enter Try.func102, Try.ntmps102
  go_wp2_with (first | (refine at_box 23 rfl ?_; refine wl_box rfl 23 _ rfl _ rfl HC.out ?_; intro b w' hn hc; (replace HC := hide hc; clear hc)) | (refine at_load 23 rfl ?_; refine wl_load_s rfl 23 _ rfl tyV rfl HC.out (by repeat (first | exact List.Mem.head _ | apply List.Mem.tail)) (GetS.all _) rfl ?_) | (go_at_call 103; refine (order_at ⟨_, _, _⟩ ⟨_, _, _⟩ _).mono ?_; rintro e w2 ⟨rfl, hg⟩; (replace HC := hide (HC.out.g hg); clear hg)))
  go_ret
  exact ⟨rfl, HC.out.grown⟩
set_option maxHeartbeats 1600000 in
theorem le_at (a b : Vl) (w : World) : Calls Try.prog 104 #[vV a, vV b] w (Told w (.bool (decide (ordI a b ≤ 0)))) := by
  have HC := hide (Cx.start w (fun _ => False))
  unfold vV
  go_enter Try.func104, Try.ntmps104
  go_wp2_with (first | (refine at_box 23 rfl ?_; refine wl_box rfl 23 _ rfl _ rfl HC.out ?_; intro b w' hn hc; (replace HC := hide hc; clear hc)) | (refine at_load 23 rfl ?_; refine wl_load_s rfl 23 _ rfl tyV rfl HC.out (by repeat (first | exact List.Mem.head _ | apply List.Mem.tail)) (GetS.all _) rfl ?_) | (go_at_call 103; refine (order_at ⟨_, _, _⟩ ⟨_, _, _⟩ _).mono ?_; rintro e w2 ⟨rfl, hg⟩; (replace HC := hide (HC.out.g hg); clear hg)))
  go_ret
  exact ⟨rfl, HC.out.grown⟩
set_option maxHeartbeats 1600000 in
theorem gt_at (a b : Vl) (w : World) : Calls Try.prog 105 #[vV a, vV b] w (Told w (.bool (decide (0 < ordI a b)))) := by
  have HC := hide (Cx.start w (fun _ => False))
  unfold vV
  go_enter Try.func105, Try.ntmps105
  go_wp2_with (first | (refine at_box 23 rfl ?_; refine wl_box rfl 23 _ rfl _ rfl HC.out ?_; intro b w' hn hc; (replace HC := hide hc; clear hc)) | (refine at_load 23 rfl ?_; refine wl_load_s rfl 23 _ rfl tyV rfl HC.out (by repeat (first | exact List.Mem.head _ | apply List.Mem.tail)) (GetS.all _) rfl ?_) | (go_at_call 103; refine (order_at ⟨_, _, _⟩ ⟨_, _, _⟩ _).mono ?_; rintro e w2 ⟨rfl, hg⟩; (replace HC := hide (HC.out.g hg); clear hg)))
  go_ret
  exact ⟨rfl, HC.out.grown⟩
set_option maxHeartbeats 1600000 in
theorem ge_at (a b : Vl) (w : World) : Calls Try.prog 106 #[vV a, vV b] w (Told w (.bool (decide (0 ≤ ordI a b)))) := by
  have HC := hide (Cx.start w (fun _ => False))
  unfold vV
  go_enter Try.func106, Try.ntmps106
  go_wp2_with (first | (refine at_box 23 rfl ?_; refine wl_box rfl 23 _ rfl _ rfl HC.out ?_; intro b w' hn hc; (replace HC := hide hc; clear hc)) | (refine at_load 23 rfl ?_; refine wl_load_s rfl 23 _ rfl tyV rfl HC.out (by repeat (first | exact List.Mem.head _ | apply List.Mem.tail)) (GetS.all _) rfl ?_) | (go_at_call 103; refine (order_at ⟨_, _, _⟩ ⟨_, _, _⟩ _).mono ?_; rintro e w2 ⟨rfl, hg⟩; (replace HC := hide (HC.out.g hg); clear hg)))
  go_ret
  exact ⟨rfl, HC.out.grown⟩
end Go.Proofs.Ytgdpcdpkaaefbaa.Cn
