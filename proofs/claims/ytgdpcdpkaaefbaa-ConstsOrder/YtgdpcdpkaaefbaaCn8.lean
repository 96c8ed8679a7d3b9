/-
  Package consts: what its closures make of the functions that they hold: words, sets, truths, divisions.
-/
import Derived.Test.YtgdpcdpkaaefbaaCn7
namespace Go.Proofs.Ytgdpcdpkaaefbaa.Cn
open Go.RowKit hiding Hid
open Go.Maps Go.Proofs.Ytgdpcdpkaaefbaa.Tx Go.Proofs.Ytgdpcdpkaaefbaa.Lx Go.Proofs.Ytgdpcdpkaaefbaa.Mp Go.Proofs.Ytgdpcdpkaaefbaa.Tr Go.Proofs.Ytgdpcdpkaaefbaa.Bits
set_option linter.unusedVariables false
set_option linter.unusedSimpArgs false
set_option maxRecDepth 100000

set_option maxHeartbeats 3200000 in
theorem ofWords_at {a b : Vl} {G : FuncId} {x : Int} {cb : Nat} {w : World} (hk : w.cell? ⟨cb, 0, none⟩ = some (fnV G)) (hcf : Cbv G #[.int .u32 (a.n % 4294967296), .int .u32 (b.n % 4294967296)]) (HG : ∀ W, Calls Try.prog G #[.int .u32 (a.n % 4294967296), .int .u32 (b.n % 4294967296)] W (Told W (.int .u32 x))) :
    Calls Try.prog 109 #[vV a, vV b, .pointer (some ⟨cb, 0, none⟩)] w (Told w (rsV (intR (wrap32 x)))) := by
  have HC := hide (Cx.start w (fun _ => False))
  obtain ⟨f, n, t⟩ := a
  obtain ⟨g, m, s⟩ := b
  dsimp only at hcf HG
  unfold Cbv at hcf
  replace HG := hide HG
  have HK := hide hk
  obtain ⟨⟨⟨rf, rn, rt⟩, re⟩, hI⟩ : ∃ R, intR (wrap32 x) = R := ⟨_, rfl⟩
  have HI := hide (integer_as hI)
  rw [hI]
  unfold vV rsV
  dsimp only
  clear hk hI
  go_enter Try.func109, Try.ntmps109
  go_wp2_with (first | (refine at_box 23 rfl ?_; refine wl_box rfl 23 _ rfl _ rfl HC.out ?_; intro b w' hn hc; (replace HC := hide hc; clear hc)) | (refine at_alloc 23 rfl ?_; refine wl_alloc rfl 23 rfl _ zV HC.out ?_; intro b w' hn hc; (replace HC := hide hc; clear hc)))
  have HR := hide ((HC.out.old _ (.head _)).resolve_right (by simp))
  (replace HC := hide (HC.out.g (d1_g _)); have HC0 := HC; refine wp_region_inO (fun W => World.grownBy _ W (some b)) 99 [0, 1, 2, 4, 5, 10, 11, 13] [0, 1, 2, 4, 5, 3, 6, 7, 8, 9, 10, 11, 12, 13] (by kernel_rfl) (by kernel_rfl) (by kernel_rfl) (by kernel_rfl) (fun _ _ d _ _ h => by cases d <;> exact h) (gr_ref _ _) ?_; have HS := hide (gr_of HC.out (some b)))
  (refine inO_read rfl rfl (yl_cell tcFW rfl rfl rfl (fun W hW => (grown_then HC0.out.grown hW (fun y e => .inr (by cases e; exact HR.out))).cell HK.out (by simp))) ?_; (try simp only [Act.put, List.getElem_toArray, List.getElem_cons_zero, List.getElem_cons_succ, List.setIfInBounds_toArray, List.set_cons_zero, List.set_cons_succ]); unfold fnV)
  (refine inO_read (v := ?_) rfl rfl (Or.inl ⟨by rfl, ?_⟩) ?_; rotate_left 1; (focus (intro W hSW; clear hSW; go_simp; (try (with_reducible rfl)))); (try simp only [Act.put, List.getElem_toArray, List.getElem_cons_zero, List.getElem_cons_succ, List.setIfInBounds_toArray, List.set_cons_zero, List.set_cons_succ]))
  (refine inO_read rfl rfl (yl_c tcI rfl rfl rfl HC0.out (nx_head HC0.out (p := ⟨_, _, _⟩) (by repeat (first | exact List.Mem.head _ | apply List.Mem.tail))) (by repeat (first | exact List.Mem.head _ | apply List.Mem.tail)) (by repeat (first | exact GetS.cons _ (GetS.nil _) | apply GetS.skip))) ?_; (try simp only [Act.put, List.getElem_toArray, List.getElem_cons_zero, List.getElem_cons_succ, List.setIfInBounds_toArray, List.set_cons_zero, List.set_cons_succ]))
  (refine inO_read (v := ?_) rfl rfl (Or.inl ⟨by rfl, ?_⟩) ?_; rotate_left 1; (focus (intro W hSW; clear hSW; go_simp; (try (with_reducible rfl)))); (try simp only [Act.put, List.getElem_toArray, List.getElem_cons_zero, List.getElem_cons_succ, List.setIfInBounds_toArray, List.set_cons_zero, List.set_cons_succ]))
  (refine inO_read rfl rfl (yl_c tcI rfl rfl rfl HC0.out (nx_head HC0.out (p := ⟨_, _, _⟩) (by repeat (first | exact List.Mem.head _ | apply List.Mem.tail))) (by repeat (first | exact List.Mem.head _ | apply List.Mem.tail)) (by repeat (first | exact GetS.cons _ (GetS.nil _) | apply GetS.skip))) ?_; (try simp only [Act.put, List.getElem_toArray, List.getElem_cons_zero, List.getElem_cons_succ, List.setIfInBounds_toArray, List.set_cons_zero, List.set_cons_succ]))
  ((refine inO_act rfl rfl rfl (fun K' hK => ?_)); go_simp; refine (word_any _ _).mono ?_; rintro e w1 ⟨rfl, rfl⟩; (refine hK _ _ (.inr HS.out) ?_; clear hK K'; (try simp only [Act.put, List.getElem_toArray, List.getElem_cons_zero, List.getElem_cons_succ, List.setIfInBounds_toArray, List.set_cons_zero, List.set_cons_succ])))
  ((refine inO_act rfl rfl rfl (fun K' hK => ?_)); go_simp; refine (word_any _ _).mono ?_; rintro e w1 ⟨rfl, rfl⟩; (refine hK _ _ (.inr HS.out) ?_; clear hK K'; (try simp only [Act.put, List.getElem_toArray, List.getElem_cons_zero, List.getElem_cons_succ, List.setIfInBounds_toArray, List.set_cons_zero, List.set_cons_succ])))
  (refine inO_act rfl rfl rfl (fun K' hK => ?_))
  go_simp
  refine (HG.out _).mono ?_
  rintro e w1 ⟨rfl, hg⟩
  (replace HC := hide (HC.out.g hg); refine hK _ _ (.inr (gr_then0 HS.out hg)) ?_; replace HS := hide (gr_then0 HS.out hg); clear hK K' hg; (try simp only [Act.put, List.getElem_toArray, List.getElem_cons_zero, List.getElem_cons_succ, List.setIfInBounds_toArray, List.set_cons_zero, List.set_cons_succ]))
  (refine inO_act rfl rfl rfl (fun K' hK => ?_))
  go_simp
  refine (signed_any _ _).mono ?_
  rintro e w1 ⟨rfl, rfl⟩
  (refine hK _ _ (.inr HS.out) ?_; clear hK K'; (try simp only [Act.put, List.getElem_toArray, List.getElem_cons_zero, List.getElem_cons_succ, List.setIfInBounds_toArray, List.set_cons_zero, List.set_cons_succ]))
  (refine inO_act rfl rfl rfl (fun K' hK => ?_))
  go_simp
  refine (HI.out _).mono ?_
  rintro e w1 ⟨rfl, hg⟩
  (replace HC := hide (HC.out.g hg); refine hK _ _ (.inr (gr_then0 HS.out hg)) ?_; replace HS := hide (gr_then0 HS.out hg); clear hK K' hg; (try simp only [Act.put, List.getElem_toArray, List.getElem_cons_zero, List.getElem_cons_succ, List.setIfInBounds_toArray, List.set_cons_zero, List.set_cons_succ]))
  (refine inO_read (v := ?_) rfl rfl (Or.inl ⟨by rfl, ?_⟩) ?_; rotate_left 1; (focus (intro W hSW; clear hSW; go_simp; (try (with_reducible rfl)))); (try simp only [Act.put, List.getElem_toArray, List.getElem_cons_zero, List.getElem_cons_succ, List.setIfInBounds_toArray, List.set_cons_zero, List.set_cons_succ]))
  (refine inO_read (v := ?_) rfl rfl (Or.inl ⟨by rfl, ?_⟩) ?_; rotate_left 1; (focus (intro W hSW; clear hSW; go_simp; (try (with_reducible rfl)))); (try simp only [Act.put, List.getElem_toArray, List.getElem_cons_zero, List.getElem_cons_succ, List.setIfInBounds_toArray, List.set_cons_zero, List.set_cons_succ]))
  ((refine inO_act rfl rfl rfl (fun K' hK => ?_)); refine op_store_g _ _ _ rfl rfl rfl tyV.sz rfl HC.out (by repeat (first | exact List.Mem.head _ | apply List.Mem.tail)) (by exact PutS.all _ _ rfl) (by repeat (first | exact Upd.here _ _ _ | apply Upd.there)) ?_; intro w' hg hc; (replace HC := hide hc; clear hc); refine hK _ _ (.inr (gr_then HS.out hg)) ?_; replace HS := hide (gr_then HS.out hg); clear hK K' hg; (try simp only [Act.put, List.getElem_toArray, List.getElem_cons_zero, List.getElem_cons_succ, List.setIfInBounds_toArray, List.set_cons_zero, List.set_cons_succ]))
  (refine inO_read (v := ?_) rfl rfl (Or.inl ⟨by rfl, ?_⟩) ?_; rotate_left 1; (focus (intro W hSW; clear hSW; go_simp; (try (with_reducible rfl)))); (try simp only [Act.put, List.getElem_toArray, List.getElem_cons_zero, List.getElem_cons_succ, List.setIfInBounds_toArray, List.set_cons_zero, List.set_cons_succ]))
  (refine inO_end ?_)
  go_wp2
  refine ret_two Try.results109 rfl rfl HC.out (by repeat (first | exact List.Mem.head _ | apply List.Mem.tail)) tyV rfl ?_
  exact ⟨rfl, HC.out.grown⟩
set_option maxHeartbeats 3200000 in
theorem ofSets_at {a b : Vl} {G : FuncId} {x : Int} {cb : Nat} {w : World} (hk : w.cell? ⟨cb, 0, none⟩ = some (fnV G)) (hcf : Cbv G #[.int .u32 (a.n % 4294967296), .int .u32 (b.n % 4294967296)]) (x0 : 0 ≤ x) (x1 : x < 4294967296) (HG : ∀ W, Calls Try.prog G #[.int .u32 (a.n % 4294967296), .int .u32 (b.n % 4294967296)] W (Told W (.int .u32 x))) :
    Calls Try.prog 93 #[vV a, vV b, .pointer (some ⟨cb, 0, none⟩)] w (Told w (rsV (setR x))) := by
  have HC := hide (Cx.start w (fun _ => False))
  obtain ⟨f, n, t⟩ := a
  obtain ⟨g, m, s⟩ := b
  dsimp only at hcf HG
  unfold Cbv at hcf
  replace HG := hide HG
  have HK := hide hk
  have HI := hide (fun W => set_at x x0 x1 W)
  unfold vV rsV setR at *
  dsimp only at HI ⊢
  clear hk x0 x1
  go_enter Try.func93, Try.ntmps93
  go_wp2_with (first | (refine at_box 23 rfl ?_; refine wl_box rfl 23 _ rfl _ rfl HC.out ?_; intro b w' hn hc; (replace HC := hide hc; clear hc)) | (refine at_alloc 23 rfl ?_; refine wl_alloc rfl 23 rfl _ zV HC.out ?_; intro b w' hn hc; (replace HC := hide hc; clear hc)))
  have HR := hide ((HC.out.old _ (.head _)).resolve_right (by simp))
  (replace HC := hide (HC.out.g (d1_g _)); have HC0 := HC; refine wp_region_inO (fun W => World.grownBy _ W (some b)) 99 [0, 1, 2, 4, 5, 10] [0, 1, 2, 4, 5, 3, 6, 7, 8, 9, 10] (by kernel_rfl) (by kernel_rfl) (by kernel_rfl) (by kernel_rfl) (fun _ _ d _ _ h => by cases d <;> exact h) (gr_ref _ _) ?_; have HS := hide (gr_of HC.out (some b)))
  (refine inO_read rfl rfl (yl_cell tcFW rfl rfl rfl (fun W hW => (grown_then HC0.out.grown hW (fun y e => .inr (by cases e; exact HR.out))).cell HK.out (by simp))) ?_; (try simp only [Act.put, List.getElem_toArray, List.getElem_cons_zero, List.getElem_cons_succ, List.setIfInBounds_toArray, List.set_cons_zero, List.set_cons_succ]); unfold fnV)
  (refine inO_read (v := ?_) rfl rfl (Or.inl ⟨by rfl, ?_⟩) ?_; rotate_left 1; (focus (intro W hSW; clear hSW; go_simp; (try (with_reducible rfl)))); (try simp only [Act.put, List.getElem_toArray, List.getElem_cons_zero, List.getElem_cons_succ, List.setIfInBounds_toArray, List.set_cons_zero, List.set_cons_succ]))
  (refine inO_read rfl rfl (yl_c tcI rfl rfl rfl HC0.out (nx_head HC0.out (p := ⟨_, _, _⟩) (by repeat (first | exact List.Mem.head _ | apply List.Mem.tail))) (by repeat (first | exact List.Mem.head _ | apply List.Mem.tail)) (by repeat (first | exact GetS.cons _ (GetS.nil _) | apply GetS.skip))) ?_; (try simp only [Act.put, List.getElem_toArray, List.getElem_cons_zero, List.getElem_cons_succ, List.setIfInBounds_toArray, List.set_cons_zero, List.set_cons_succ]))
  (refine inO_read (v := ?_) rfl rfl (Or.inl ⟨by rfl, ?_⟩) ?_; rotate_left 1; (focus (intro W hSW; clear hSW; go_simp; (try (with_reducible rfl)))); (try simp only [Act.put, List.getElem_toArray, List.getElem_cons_zero, List.getElem_cons_succ, List.setIfInBounds_toArray, List.set_cons_zero, List.set_cons_succ]))
  (refine inO_read rfl rfl (yl_c tcI rfl rfl rfl HC0.out (nx_head HC0.out (p := ⟨_, _, _⟩) (by repeat (first | exact List.Mem.head _ | apply List.Mem.tail))) (by repeat (first | exact List.Mem.head _ | apply List.Mem.tail)) (by repeat (first | exact GetS.cons _ (GetS.nil _) | apply GetS.skip))) ?_; (try simp only [Act.put, List.getElem_toArray, List.getElem_cons_zero, List.getElem_cons_succ, List.setIfInBounds_toArray, List.set_cons_zero, List.set_cons_succ]))
  ((refine inO_act rfl rfl rfl (fun K' hK => ?_)); go_simp; refine (word_any _ _).mono ?_; rintro e w1 ⟨rfl, rfl⟩; (refine hK _ _ (.inr HS.out) ?_; clear hK K'; (try simp only [Act.put, List.getElem_toArray, List.getElem_cons_zero, List.getElem_cons_succ, List.setIfInBounds_toArray, List.set_cons_zero, List.set_cons_succ])))
  ((refine inO_act rfl rfl rfl (fun K' hK => ?_)); go_simp; refine (word_any _ _).mono ?_; rintro e w1 ⟨rfl, rfl⟩; (refine hK _ _ (.inr HS.out) ?_; clear hK K'; (try simp only [Act.put, List.getElem_toArray, List.getElem_cons_zero, List.getElem_cons_succ, List.setIfInBounds_toArray, List.set_cons_zero, List.set_cons_succ])))
  (refine inO_act rfl rfl rfl (fun K' hK => ?_))
  go_simp
  refine (HG.out _).mono ?_
  rintro e w1 ⟨rfl, hg⟩
  (replace HC := hide (HC.out.g hg); refine hK _ _ (.inr (gr_then0 HS.out hg)) ?_; replace HS := hide (gr_then0 HS.out hg); clear hK K' hg; (try simp only [Act.put, List.getElem_toArray, List.getElem_cons_zero, List.getElem_cons_succ, List.setIfInBounds_toArray, List.set_cons_zero, List.set_cons_succ]))
  (refine inO_act rfl rfl rfl (fun K' hK => ?_))
  go_simp
  refine (HI.out _).mono ?_
  rintro e w1 ⟨rfl, hg⟩
  (replace HC := hide (HC.out.g hg); refine hK _ _ (.inr (gr_then0 HS.out hg)) ?_; replace HS := hide (gr_then0 HS.out hg); clear hK K' hg; (try simp only [Act.put, List.getElem_toArray, List.getElem_cons_zero, List.getElem_cons_succ, List.setIfInBounds_toArray, List.set_cons_zero, List.set_cons_succ]))
  ((refine inO_act rfl rfl rfl (fun K' hK => ?_)); refine op_store_g _ _ _ rfl rfl rfl tyV.sz rfl HC.out (by repeat (first | exact List.Mem.head _ | apply List.Mem.tail)) (by exact PutS.all _ _ rfl) (by repeat (first | exact Upd.here _ _ _ | apply Upd.there)) ?_; intro w' hg hc; (replace HC := hide hc; clear hc); refine hK _ _ (.inr (gr_then HS.out hg)) ?_; replace HS := hide (gr_then HS.out hg); clear hK K' hg; (try simp only [Act.put, List.getElem_toArray, List.getElem_cons_zero, List.getElem_cons_succ, List.setIfInBounds_toArray, List.set_cons_zero, List.set_cons_succ]))
  (refine inO_read (v := ?_) rfl rfl (Or.inl ⟨by rfl, ?_⟩) ?_; rotate_left 1; (focus (intro W hSW; clear hSW; go_simp; (try (with_reducible rfl)))); (try simp only [Act.put, List.getElem_toArray, List.getElem_cons_zero, List.getElem_cons_succ, List.setIfInBounds_toArray, List.set_cons_zero, List.set_cons_succ]))
  (refine inO_end ?_)
  go_wp2
  refine ret_two Try.results93 rfl rfl HC.out (by repeat (first | exact List.Mem.head _ | apply List.Mem.tail)) tyV rfl ?_
  exact ⟨rfl, HC.out.grown⟩
set_option maxHeartbeats 3200000 in
theorem tells_at {a b : Vl} {G : FuncId} {B : Bool} {cb : Nat} {w : World} (hk : w.cell? ⟨cb, 0, none⟩ = some (fnV G)) (hcf : Cbv G #[vV a, vV b]) (HG : ∀ W, Calls Try.prog G #[vV a, vV b] W (Told W (.bool B))) :
    Calls Try.prog 95 #[vV a, vV b, .pointer (some ⟨cb, 0, none⟩)] w (Told w (rsV (bolR B))) := by
  have HC := hide (Cx.start w (fun _ => False))
  obtain ⟨f, n, t⟩ := a
  obtain ⟨g, m, s⟩ := b
  obtain ⟨q, hq⟩ := bolR_as B
  have HB := hide (fun W => boolean_as hq W)
  have HK := hide hk
  rw [hq]
  unfold Cbv at hcf
  unfold vV at *
  unfold rsV vV
  dsimp only at hcf HG ⊢
  replace HG := hide HG
  clear hk hq
  go_enter Try.func95, Try.ntmps95
  go_wp2_with (first | (refine at_box 23 rfl ?_; refine wl_box rfl 23 _ rfl _ rfl HC.out ?_; intro b w' hn hc; (replace HC := hide hc; clear hc)) | (refine at_alloc 23 rfl ?_; refine wl_alloc rfl 23 rfl _ zV HC.out ?_; intro b w' hn hc; (replace HC := hide hc; clear hc)) | (refine at_load 23 rfl ?_; refine wl_load_s rfl 23 _ rfl tyV rfl HC.out (by repeat (first | exact List.Mem.head _ | apply List.Mem.tail)) (GetS.all _) rfl ?_) | (refine at_load 31 rfl ?_; refine wl_cell rfl _ _ rfl tcFV rfl (HC.out.grown.cell HK.out (by simp)) ?_; unfold fnV) | (go_at_call 96; refine (HB.out _).mono ?_; rintro e w2 ⟨rfl, hg⟩; (replace HC := hide (HC.out.g hg); clear hg)) | (refine (HG.out _).mono ?_; rintro e w2 ⟨rfl, hg⟩; (replace HC := hide (HC.out.g hg); clear hg)) | (refine at_store 23 rfl ?_; refine wl_store rfl 23 _ _ rfl rfl rfl tyV.sz rfl HC.out (by repeat (first | exact List.Mem.head _ | apply List.Mem.tail)) (by exact PutS.all _ _ rfl) (by repeat (first | exact Upd.here _ _ _ | apply Upd.there)) ?_; intro w' hc; (replace HC := hide hc; clear hc)))
  refine ret_two Try.results95 rfl rfl HC.out (by repeat (first | exact List.Mem.head _ | apply List.Mem.tail)) tyV rfl ?_
  exact ⟨rfl, HC.out.grown⟩
def divR (b x : Int) : Rs := if b ≤ 0 then (Vl.z, 121) else intR x
set_option maxHeartbeats 3200000 in
theorem division_at {a b : Vl} {G : FuncId} {x : Int} {cb : Nat} {w : World} (hk : w.cell? ⟨cb, 0, none⟩ = some (fnV G)) (hcf : Cbv G #[.int .i64 a.n, .int .i64 b.n]) (HG : 0 < b.n → ∀ W, Calls Try.prog G #[.int .i64 a.n, .int .i64 b.n] W (Told W (.int .i64 x))) :
    Calls Try.prog 98 #[vV a, vV b, .pointer (some ⟨cb, 0, none⟩)] w (Told w (rsV (divR b.n x))) := by
  have HC := hide (Cx.start w (fun _ => False))
  obtain ⟨f, n, t⟩ := a
  obtain ⟨g, m, s⟩ := b
  dsimp only at hcf HG ⊢
  unfold Cbv at hcf
  have HK := hide hk
  by_cases h0 : m ≤ 0
  · rw [show divR m x = (Vl.z, 121) from if_pos h0]
    unfold vV rsV
    dsimp only
    clear hk HG
    have HG := hide True.intro
    have HI := hide True.intro
    (go_enter Try.func98, Try.ntmps98; go_wp2_with (first | (refine at_box 23 rfl ?_; refine wl_box rfl 23 _ rfl _ rfl HC.out ?_; intro b w' hn hc; (replace HC := hide hc; clear hc)) | (refine at_alloc 23 rfl ?_; refine wl_alloc rfl 23 rfl _ zV HC.out ?_; intro b w' hn hc; (replace HC := hide hc; clear hc)) | (refine at_load 3 rfl ?_; refine wl_load_c rfl 3 _ rfl tcI rfl HC.out (by repeat (first | exact List.Mem.head _ | apply List.Mem.tail)) (by repeat (first | exact GetS.cons _ (GetS.nil _) | apply GetS.skip)) ?_) | (refine at_load 81 rfl ?_; refine wl_cell rfl _ _ rfl tcFI rfl (HC.out.grown.cell HK.out (by simp)) ?_; unfold fnV) | (go_at_call 92; refine (HI.out _).mono ?_; rintro e w2 ⟨rfl, hg⟩; (replace HC := hide (HC.out.g hg); clear hg)) | (refine (HG.out _).mono ?_; rintro e w2 ⟨rfl, hg⟩; (replace HC := hide (HC.out.g hg); clear hg)) | (refine at_store 23 rfl ?_; refine wl_store rfl 23 _ _ rfl rfl rfl tyV.sz rfl HC.out (by repeat (first | exact List.Mem.head _ | apply List.Mem.tail)) (by exact PutS.all _ _ rfl) (by repeat (first | exact Upd.here _ _ _ | apply Upd.there)) ?_; intro w' hc; (replace HC := hide hc; clear hc))); refine ret_two Try.results98 rfl rfl HC.out (by repeat (first | exact List.Mem.head _ | apply List.Mem.tail)) tyV rfl ?_)
    exact ⟨rfl, HC.out.grown⟩
  · replace HG := hide (HG (by omega))
    obtain ⟨⟨⟨rf, rn, rt⟩, re⟩, hI⟩ : ∃ R, intR x = R := ⟨_, rfl⟩
    have HI := hide (integer_as hI)
    rw [show divR m x = (⟨rf, rn, rt⟩, re) from (if_neg h0).trans hI]
    unfold vV rsV
    dsimp only
    clear hk hI
    (go_enter Try.func98, Try.ntmps98; go_wp2_with (first | (refine at_box 23 rfl ?_; refine wl_box rfl 23 _ rfl _ rfl HC.out ?_; intro b w' hn hc; (replace HC := hide hc; clear hc)) | (refine at_alloc 23 rfl ?_; refine wl_alloc rfl 23 rfl _ zV HC.out ?_; intro b w' hn hc; (replace HC := hide hc; clear hc)) | (refine at_load 3 rfl ?_; refine wl_load_c rfl 3 _ rfl tcI rfl HC.out (by repeat (first | exact List.Mem.head _ | apply List.Mem.tail)) (by repeat (first | exact GetS.cons _ (GetS.nil _) | apply GetS.skip)) ?_) | (refine at_load 81 rfl ?_; refine wl_cell rfl _ _ rfl tcFI rfl (HC.out.grown.cell HK.out (by simp)) ?_; unfold fnV) | (go_at_call 92; refine (HI.out _).mono ?_; rintro e w2 ⟨rfl, hg⟩; (replace HC := hide (HC.out.g hg); clear hg)) | (refine (HG.out _).mono ?_; rintro e w2 ⟨rfl, hg⟩; (replace HC := hide (HC.out.g hg); clear hg)) | (refine at_store 23 rfl ?_; refine wl_store rfl 23 _ _ rfl rfl rfl tyV.sz rfl HC.out (by repeat (first | exact List.Mem.head _ | apply List.Mem.tail)) (by exact PutS.all _ _ rfl) (by repeat (first | exact Upd.here _ _ _ | apply Upd.there)) ?_; intro w' hc; (replace HC := hide hc; clear hc))); refine ret_two Try.results98 rfl rfl HC.out (by repeat (first | exact List.Mem.head _ | apply List.Mem.tail)) tyV rfl ?_)
    exact ⟨rfl, HC.out.grown⟩
end Go.Proofs.Ytgdpcdpkaaefbaa.Cn
