/-
  Package consts: member; what its closures make of the functions that they hold.
-/
import Derived.Test.YtgdpcdpkaaefbaaCn6
import Derived.Test.YtgdpcdpkaaefbaaCx9
namespace Go.Proofs.Ytgdpcdpkaaefbaa.Cn
open Go.RowKit hiding Hid
open Go.Maps Go.Proofs.Ytgdpcdpkaaefbaa.Tx Go.Proofs.Ytgdpcdpkaaefbaa.Lx Go.Proofs.Ytgdpcdpkaaefbaa.Mp Go.Proofs.Ytgdpcdpkaaefbaa.Tr Go.Proofs.Ytgdpcdpkaaefbaa.Bits
set_option linter.unusedVariables false
set_option linter.unusedSimpArgs false
set_option maxRecDepth 100000

theorem bolR_as (B : Bool) : ∃ q, bolR B = (⟨2, q, []⟩, 0) := ⟨_, rfl⟩
theorem boolean_as {B : Bool} {q : Int} (h : bolR B = (⟨2, q, []⟩, 0)) (W : World) : Calls Try.prog 96 #[.bool B] W (Told W (.agg #[.int .i64 2, .int .i64 q, .string (bs [])])) := by
  have := boolean_at B W
  rw [h] at this
  exact this
set_option maxHeartbeats 3200000 in
theorem member_at (a b : Vl) (w : World) : Calls Try.prog 74 #[vV a, vV b] w (Told w (rsV (memR a b))) := by
  have HC := hide (Cx.start w (fun _ => False))
  obtain ⟨f, n, t⟩ := a
  obtain ⟨g, m, s⟩ := b
  cases hw : wiB n 31 with
  | true =>
    have HW := hide hw
    have hR : memR ⟨f, n, t⟩ ⟨g, m, s⟩ = bolR (getI (m % 4294967296) n 1 == 1) := if_pos hw
    obtain ⟨B, hB⟩ : ∃ B, (getI (m % 4294967296) n 1 == 1) = B := ⟨_, rfl⟩
    rw [hB] at hR
    obtain ⟨q, hq⟩ := bolR_as B
    have HB := hide (fun W => boolean_as hq W)
    rw [hq] at hR
    have HX := hide (show 0 ≤ m % 4294967296 ∧ m % 4294967296 < 4294967296 by omega)
    have HN := hide (show 0 ≤ n ∧ n ≤ 31 by simp only [wiB, Bool.and_eq_true, decide_eq_true_eq] at hw; exact hw)
    rw [hR]
    unfold vV rsV
    dsimp only
    clear hw hR hq
    go_enter Try.func74, Try.ntmps74
    go_wp2_with (first | (refine at_box 23 rfl ?_; refine wl_box rfl 23 _ rfl _ rfl HC.out ?_; intro b w' hn hc; (replace HC := hide hc; clear hc)) | (refine at_alloc 23 rfl ?_; refine wl_alloc rfl 23 rfl _ zV HC.out ?_; intro b w' hn hc; (replace HC := hide hc; clear hc)) | (refine at_load 3 rfl ?_; refine wl_load_c rfl 3 _ rfl tcI rfl HC.out (by repeat (first | exact List.Mem.head _ | apply List.Mem.tail)) (by repeat (first | exact GetS.cons _ (GetS.nil _) | apply GetS.skip)) ?_) | (go_at_call 49; refine (within_at _ _ _).mono ?_; rw [HW.out]; rintro e w2 ⟨rfl, rfl⟩))
    (replace HC := hide (HC.out.g (d1_g _)); have HC0 := HC; refine wp_region_inO (fun W => World.grownBy _ W (some b)) 99 [0, 1, 3, 4, 6, 9] [0, 1, 3, 4, 2, 5, 6, 7, 8, 9] (by kernel_rfl) (by kernel_rfl) (by kernel_rfl) (by kernel_rfl) (fun _ _ d _ _ h => by cases d <;> exact h) (gr_ref _ _) ?_; have HS := hide (gr_of HC.out (some b)))
    (refine inO_read (v := ?_) rfl rfl (Or.inl ⟨by rfl, ?_⟩) ?_; rotate_left 1; (focus (intro W hSW; clear hSW; go_simp; (try (with_reducible rfl)))); (try simp only [Act.put, List.getElem_toArray, List.getElem_cons_zero, List.getElem_cons_succ, List.setIfInBounds_toArray, List.set_cons_zero, List.set_cons_succ]))
    (refine inO_read rfl rfl (yl_c tcI rfl rfl rfl HC0.out (nx_head HC0.out (p := ⟨_, _, _⟩) (by repeat (first | exact List.Mem.head _ | apply List.Mem.tail))) (by repeat (first | exact List.Mem.head _ | apply List.Mem.tail)) (by repeat (first | exact GetS.cons _ (GetS.nil _) | apply GetS.skip))) ?_; (try simp only [Act.put, List.getElem_toArray, List.getElem_cons_zero, List.getElem_cons_succ, List.setIfInBounds_toArray, List.set_cons_zero, List.set_cons_succ]))
    (refine inO_read (v := ?_) rfl rfl (Or.inl ⟨by rfl, ?_⟩) ?_; rotate_left 1; (focus (intro W hSW; clear hSW; go_simp; (try (with_reducible rfl)))); (try simp only [Act.put, List.getElem_toArray, List.getElem_cons_zero, List.getElem_cons_succ, List.setIfInBounds_toArray, List.set_cons_zero, List.set_cons_succ]))
    (refine inO_read rfl rfl (yl_c tcI rfl rfl rfl HC0.out (nx_head HC0.out (p := ⟨_, _, _⟩) (by repeat (first | exact List.Mem.head _ | apply List.Mem.tail))) (by repeat (first | exact List.Mem.head _ | apply List.Mem.tail)) (by repeat (first | exact GetS.cons _ (GetS.nil _) | apply GetS.skip))) ?_; (try simp only [Act.put, List.getElem_toArray, List.getElem_cons_zero, List.getElem_cons_succ, List.setIfInBounds_toArray, List.set_cons_zero, List.set_cons_succ]))
    (refine inO_act rfl rfl rfl (fun K' hK => ?_))
    go_simp
    refine (word_any _ _).mono ?_
    rintro e w1 ⟨rfl, rfl⟩
    (refine hK _ _ (.inr HS.out) ?_; clear hK K'; (try simp only [Act.put, List.getElem_toArray, List.getElem_cons_zero, List.getElem_cons_succ, List.setIfInBounds_toArray, List.set_cons_zero, List.set_cons_succ]))
    (refine inO_act rfl rfl rfl (fun K' hK => ?_))
    go_simp
    refine (get_any _ _ _ _ HX.out.1 HX.out.2 (by have := HN.out; omega)).mono ?_
    rintro e w1 ⟨rfl, rfl⟩
    (refine hK _ _ (.inr HS.out) ?_; clear hK K'; (try simp only [Act.put, List.getElem_toArray, List.getElem_cons_zero, List.getElem_cons_succ, List.setIfInBounds_toArray, List.set_cons_zero, List.set_cons_succ]))
    (refine inO_read (v := ?_) rfl rfl (Or.inl ⟨by rfl, ?_⟩) ?_; rotate_left 1; (focus (intro W hSW; clear hSW; go_simp; (try (with_reducible rfl)))); (try simp only [Act.put, List.getElem_toArray, List.getElem_cons_zero, List.getElem_cons_succ, List.setIfInBounds_toArray, List.set_cons_zero, List.set_cons_succ]))
    (refine inO_act rfl rfl rfl (fun K' hK => ?_))
    go_simp
    refine (HB.out _).mono ?_
    rintro e w1 ⟨rfl, hg⟩
    (replace HC := hide (HC.out.g hg); refine hK _ _ (.inr (gr_then0 HS.out hg)) ?_; replace HS := hide (gr_then0 HS.out hg); clear hK K' hg; (try simp only [Act.put, List.getElem_toArray, List.getElem_cons_zero, List.getElem_cons_succ, List.setIfInBounds_toArray, List.set_cons_zero, List.set_cons_succ]))
    ((refine inO_act rfl rfl rfl (fun K' hK => ?_)); refine op_store_g _ _ _ rfl rfl rfl tyV.sz rfl HC.out (by repeat (first | exact List.Mem.head _ | apply List.Mem.tail)) (by exact PutS.all _ _ rfl) (by repeat (first | exact Upd.here _ _ _ | apply Upd.there)) ?_; intro w' hg hc; (replace HC := hide hc; clear hc); refine hK _ _ (.inr (gr_then HS.out hg)) ?_; replace HS := hide (gr_then HS.out hg); clear hK K' hg; (try simp only [Act.put, List.getElem_toArray, List.getElem_cons_zero, List.getElem_cons_succ, List.setIfInBounds_toArray, List.set_cons_zero, List.set_cons_succ]))
    (refine inO_read (v := ?_) rfl rfl (Or.inl ⟨by rfl, ?_⟩) ?_; rotate_left 1; (focus (intro W hSW; clear hSW; go_simp; (try (with_reducible rfl)))); (try simp only [Act.put, List.getElem_toArray, List.getElem_cons_zero, List.getElem_cons_succ, List.setIfInBounds_toArray, List.set_cons_zero, List.set_cons_succ]))
    (refine inO_end ?_)
    go_wp2
    refine ret_two Try.results74 rfl rfl HC.out (by repeat (first | exact List.Mem.head _ | apply List.Mem.tail)) tyV rfl ?_
    exact ⟨rfl, HC.out.grown⟩
  | false =>
    have HW := hide hw
    have hR : memR ⟨f, n, t⟩ ⟨g, m, s⟩ = (Vl.z, 91) := if_neg (by simp [hw])
    rw [hR]
    unfold vV
    clear hw hR
    go_enter Try.func74, Try.ntmps74
    go_wp2_with (first | (refine at_box 23 rfl ?_; refine wl_box rfl 23 _ rfl _ rfl HC.out ?_; intro b w' hn hc; (replace HC := hide hc; clear hc)) | (refine at_alloc 23 rfl ?_; refine wl_alloc rfl 23 rfl _ zV HC.out ?_; intro b w' hn hc; (replace HC := hide hc; clear hc)) | (refine at_load 3 rfl ?_; refine wl_load_c rfl 3 _ rfl tcI rfl HC.out (by repeat (first | exact List.Mem.head _ | apply List.Mem.tail)) (by repeat (first | exact GetS.cons _ (GetS.nil _) | apply GetS.skip)) ?_) | (go_at_call 49; refine (within_at _ _ _).mono ?_; rw [HW.out]; rintro e w2 ⟨rfl, rfl⟩) | (refine at_store 23 rfl ?_; refine wl_store rfl 23 _ _ rfl rfl rfl tyV.sz rfl HC.out (by repeat (first | exact List.Mem.head _ | apply List.Mem.tail)) (by exact PutS.all _ _ rfl) (by repeat (first | exact Upd.here _ _ _ | apply Upd.there)) ?_; intro w' hc; (replace HC := hide hc; clear hc)))
    refine ret_two Try.results74 rfl rfl HC.out (by repeat (first | exact List.Mem.head _ | apply List.Mem.tail)) tyV rfl ?_
    exact ⟨rfl, HC.out.grown⟩
theorem tcFI : TyC Try.prog 81 := tyC_of Try.underlying81 rfl (by kernel_rfl)
theorem tcFW : TyC Try.prog 73 := tyC_of Try.underlying73 rfl (by kernel_rfl)
theorem tcFV : TyC Try.prog 31 := tyC_of Try.underlying31 rfl (by kernel_rfl)
set_option maxHeartbeats 3200000 in
theorem ofInts_at {a b : Vl} {G : FuncId} {x : Int} {cb : Nat} {w : World} (hk : w.cell? ⟨cb, 0, none⟩ = some (fnV G)) (hcf : Cbv G #[.int .i64 a.n, .int .i64 b.n]) (HG : ∀ W, Calls Try.prog G #[.int .i64 a.n, .int .i64 b.n] W (Told W (.int .i64 x))) :
    Calls Try.prog 91 #[vV a, vV b, .pointer (some ⟨cb, 0, none⟩)] w (Told w (rsV (intR x))) := by
  have HC := hide (Cx.start w (fun _ => False))
  obtain ⟨f, n, t⟩ := a
  obtain ⟨g, m, s⟩ := b
  dsimp only at hcf HG
  unfold Cbv at hcf
  replace HG := hide HG
  have HK := hide hk
  obtain ⟨⟨⟨rf, rn, rt⟩, re⟩, hI⟩ : ∃ R, intR x = R := ⟨_, rfl⟩
  have HI := hide (integer_as hI)
  rw [hI]
  unfold vV rsV
  dsimp only
  clear hk hI
  go_enter Try.func91, Try.ntmps91
  go_wp2_with (first | (refine at_box 23 rfl ?_; refine wl_box rfl 23 _ rfl _ rfl HC.out ?_; intro b w' hn hc; (replace HC := hide hc; clear hc)) | (refine at_alloc 23 rfl ?_; refine wl_alloc rfl 23 rfl _ zV HC.out ?_; intro b w' hn hc; (replace HC := hide hc; clear hc)) | (refine at_load 3 rfl ?_; refine wl_load_c rfl 3 _ rfl tcI rfl HC.out (by repeat (first | exact List.Mem.head _ | apply List.Mem.tail)) (by repeat (first | exact GetS.cons _ (GetS.nil _) | apply GetS.skip)) ?_) | (refine at_load 81 rfl ?_; refine wl_cell rfl _ _ rfl tcFI rfl (HC.out.grown.cell HK.out (by simp)) ?_; unfold fnV) | (refine (HG.out _).mono ?_; rintro e w2 ⟨rfl, hg⟩; (replace HC := hide (HC.out.g hg); clear hg)) | (go_at_call 92; refine (HI.out _).mono ?_; rintro e w2 ⟨rfl, hg⟩; (replace HC := hide (HC.out.g hg); clear hg)) | (refine at_store 23 rfl ?_; refine wl_store rfl 23 _ _ rfl rfl rfl tyV.sz rfl HC.out (by repeat (first | exact List.Mem.head _ | apply List.Mem.tail)) (by exact PutS.all _ _ rfl) (by repeat (first | exact Upd.here _ _ _ | apply Upd.there)) ?_; intro w' hc; (replace HC := hide hc; clear hc)))
  refine ret_two Try.results91 rfl rfl HC.out (by repeat (first | exact List.Mem.head _ | apply List.Mem.tail)) tyV rfl ?_
  exact ⟨rfl, HC.out.grown⟩
end Go.Proofs.Ytgdpcdpkaaefbaa.Cn
