/-
  Layout, the document's own (package spinetref14): sizes of arrays and records; all sizes.
-/
import Derived.Test.YtnolelgmcmgohaaY9
namespace Go.Proofs.Ytnolelgmcmgohaa.Ty
open Go.RowKit hiding Hid
open Go.Proofs.Ytnolelgmcmgohaa.Tx Go.Proofs.Ytnolelgmcmgohaa.Lx Go.Proofs.Ytnolelgmcmgohaa.Tr
set_option linter.unusedVariables false
set_option linter.unusedSimpArgs false
set_option maxRecDepth 100000

section
variable {w0 : World} {ad : Addr} {cp : Nat} {T : List Tt} {s : Int → Int} {b g : Nat}
set_option maxHeartbeats 16000000 in
theorem zsz_arr {r : Nat → Nat} {k : Nat} (hZ : ZsOk w0 (some ad) cp T s b g r k) (hB : Rb T s r) {M : List Int} {w : World} {a : Nat} (H : Zk w0 (some ad) cp T s b g M w) (ha : a < T.length) (hr : r a < k + 1) (h0 : mk M a = 0) {x : Tt} (hx : T[a]? = some x) (hf : x.fm = 7) :
    Calls Try.prog 51 #[.pointer (some ⟨b, 0, none⟩), .int .i64 a] w (ZkO w0 (some ad) cp T s b g w (.int .i64 (s (a : Int)))) := by
  obtain ⟨ad', ⟨⟨fm, md, nm, ln, el, ba, fl, pm, rs, ds⟩, fo, fc, po, pc⟩, e1, rfl, hcl, hla⟩ := H.tab.at hx
  cases e1
  dsimp only at hf
  subst hf
  have hp : partsI ⟨7, md, nm, ln, el, ba, fl, pm, rs, ds⟩ = [el] := rfl
  have hl := hB.ln a _ hx rfl
  have h1 := hB.inp a _ hx el (by rw [hp]; simp)
  have h2 := hB.rk a _ hx el (by rw [hp]; simp)
  have hs := hB.hs.eq a _ hx
  dsimp only at hl
  obtain ⟨j, rfl⟩ := Int.eq_ofNat_of_zero_le h1.1
  rw [Int.toNat_natCast] at h2
  have HJ := hide (show j < T.length by omega)
  have HR := hide (show r j < k by omega)
  have hs2 : szX s ⟨7, md, nm, ln, (j : Int), ba, fl, pm, rs, ds⟩ = up4 (ln * s (j : Int)) := rfl
  rw [hs2] at hs
  have v0 := hB.hs.lo (j : Int)
  have v1 := hB.hs.hi (j : Int)
  obtain ⟨Z, hZ2⟩ : ∃ V, s (j : Int) = V := ⟨_, rfl⟩
  have HZv := hide hZ2
  rw [hZ2] at v0 v1 hs
  obtain ⟨P, hP⟩ : ∃ M, ln * Z = M := ⟨_, rfl⟩
  have m0 : 0 ≤ P := by rw [← hP]; exact Int.mul_nonneg (by omega) v0
  have m1 : P ≤ 134221824 := by
    rw [← hP]
    have := Int.mul_le_mul hl.2 v1 v0 (by decide : (0 : Int) ≤ 4096)
    omega
  rw [hP] at hs
  obtain ⟨U, hU⟩ : ∃ U, up4 P = U := ⟨_, rfl⟩
  have HU := hide hU
  have u0 := up4_le P
  have u1 := up4_lt P
  rw [hU] at hs u0 u1
  obtain ⟨V, hV⟩ : ∃ V, s (a : Int) = V := ⟨_, rfl⟩
  rw [hV] at hs ⊢
  have HV := hide hV.symm
  obtain ⟨B, hB2⟩ : ∃ B, ad.add (a * 10) = B := ⟨_, rfl⟩
  rw [hB2] at hcl
  unfold laC at hcl
  dsimp only at hcl
  have HEL := hide (fun W (hW : w0.grownBy W none) j' u (hu : ([.int .i64 7, .string (bs md), .string (bs nm), .int .i64 ln, .int .i64 (j : Int), .int .i64 ba, .slice fo fl.length fc, .slice po pm.length pc, .int .i64 rs, .int .i64 ds] : List Value)[j']? = some u) => hW.cell (hcl j' u hu) (by simp))
  have HZ := hide hZ
  have HA := hide ha
  (have HZk := hide H; have HS := hide H; have HC := hide (H.cx (fun _ => False)); have HLt := hide (show a < M.length by rw [H.len]; exact ha); obtain ⟨c0, c1⟩ := zk_two H; have cK := zk_cell H ha; have bl0 := block_lt_of_cell c0; have blK := block_lt_of_cell cK; have k1 : (a : Int) < T.length := by omega)
  rw [h0] at cK
  unfold capS at hs
  clear H hcl hla hx h0 hV ha hB hp hl h1 h2 hs2 hZ2 hU hZ hr
  by_cases hm : U ≤ 32769
  · obtain rfl : V = U := by omega
    clear hs
    go_enter Try.func51, Try.ntmps51
    go_wp2_with (first | (refine at_load 32 rfl ?_; refine wl_run rfl 32 _ rfl rfl (run_load_s tyT B _ rfl (HEL.out _ (grown_then HZk.out.gr HC.out.grown (fun y e => by cases e; exact .inr HZk.out.ng)))) ?_) | ((refine at_alloc 32 rfl ?_; refine wl_alloc rfl 32 rfl _ zTy HC.out ?_; intro bx w' hn hc; (replace HC := hide hc; clear hc)); ((try clear c0 c1); obtain ⟨c0, c1⟩ := zk_two (HZk.out.next (M' := M) HC.out.grown (HC.out.loc ⟨g, stC M, 3⟩ (by repeat (first | exact List.Mem.head _ | apply List.Mem.tail))) HS.out.len HS.out.ok))) | ((refine at_store 32 rfl ?_; refine wl_store rfl 32 _ _ rfl rfl rfl tyT.sz rfl HC.out (by repeat (first | exact List.Mem.head _ | apply List.Mem.tail)) (by exact PutS.all _ _ rfl) (by repeat (first | exact Upd.here _ _ _ | apply Upd.there)) ?_; intro w' hc; (replace HC := hide hc; clear hc)); ((try clear c0 c1); obtain ⟨c0, c1⟩ := zk_two (HZk.out.next (M' := M) HC.out.grown (HC.out.loc ⟨g, stC M, 3⟩ (by repeat (first | exact List.Mem.head _ | apply List.Mem.tail))) HS.out.len HS.out.ok))) | (refine at_load 3 rfl ?_; refine wl_load_c rfl 3 _ rfl tcI rfl HC.out (by repeat (first | exact List.Mem.head _ | apply List.Mem.tail)) (by repeat (first | exact GetS.cons _ (GetS.nil _) | apply GetS.skip)) ?_))
    ((replace HC := hide (HC.out.g (d1_g _)); have HC0 := HC; refine wp_region_inO (fun W => World.grownBy _ W (some g)) 99 [0, 1, 2, 3, 4, 6, 8, 9] [0, 1, 2, 3, 4, 5, 6, 7, 8, 9] (by kernel_rfl) (by kernel_rfl) (by kernel_rfl) (by kernel_rfl) (fun _ _ d _ _ h => by cases d <;> exact h) (gr_ref _ _) ?_; have HS := hide (gr_of HC.out (some g))); have HSr := HS; (refine inO_read (v := ?_) rfl rfl (Or.inl ⟨by rfl, ?_⟩) ?_; rotate_left 1; (focus (intro W hSW; clear hSW; go_simp; (try (with_reducible rfl)))); (try simp only [Act.put, List.getElem_toArray, List.getElem_cons_zero, List.getElem_cons_succ, List.setIfInBounds_toArray, List.set_cons_zero, List.set_cons_succ])); (refine inO_read rfl rfl (yl_c tcI rfl rfl rfl HC0.out (by first | assumption | exact nx0 _) (by repeat (first | exact List.Mem.head _ | apply List.Mem.tail)) (by repeat (first | exact GetS.cons _ (GetS.nil _) | apply GetS.skip))) ?_; (try simp only [Act.put, List.getElem_toArray, List.getElem_cons_zero, List.getElem_cons_succ, List.setIfInBounds_toArray, List.set_cons_zero, List.set_cons_succ])); (refine inO_read (v := ?_) rfl rfl (Or.inl ⟨by rfl, ?_⟩) ?_; rotate_left 1; (focus (intro W hSW; clear hSW; go_simp; (try (with_reducible rfl)))); (try simp only [Act.put, List.getElem_toArray, List.getElem_cons_zero, List.getElem_cons_succ, List.setIfInBounds_toArray, List.set_cons_zero, List.set_cons_succ])); (refine inO_read (v := ?_) rfl rfl (Or.inl ⟨by rfl, ?_⟩) ?_; rotate_left 1; (focus (intro W hSW; clear hSW; go_simp; (try (with_reducible rfl)))); (try simp only [Act.put, List.getElem_toArray, List.getElem_cons_zero, List.getElem_cons_succ, List.setIfInBounds_toArray, List.set_cons_zero, List.set_cons_succ])); (refine inO_read rfl rfl (yl_c tcI rfl rfl rfl HC0.out (by first | assumption | exact nx0 _) (by repeat (first | exact List.Mem.head _ | apply List.Mem.tail)) (by repeat (first | exact GetS.cons _ (GetS.nil _) | apply GetS.skip))) ?_; (try simp only [Act.put, List.getElem_toArray, List.getElem_cons_zero, List.getElem_cons_succ, List.setIfInBounds_toArray, List.set_cons_zero, List.set_cons_succ])); (refine inO_act rfl rfl rfl (fun K' hK => ?_)); go_simp; refine (HZ.out M _ j (HZk.out.next (M' := M) HC.out.grown (HC.out.loc ⟨g, stC M, 3⟩ (by repeat (first | exact List.Mem.head _ | apply List.Mem.tail))) HZk.out.len HZk.out.ok) HJ.out HR.out).mono ?_; rw [HZv.out]; rintro e w2 ⟨M', rfl, hg, hs⟩; replace HC := hide (HC.out.callX hg (by repeat (first | exact List.Mem.head _ | apply List.Mem.tail)) hs.blk (by repeat (first | exact Upd.here _ _ _ | apply Upd.there))); clear c0 c1; obtain ⟨c0, c1⟩ := zk_two hs; replace HLt := hide (show a < M'.length by rw [hs.len]; exact HA.out); refine hK _ _ (.inr (gr_then HSr.out hg)) ?_; replace HSr := hide (gr_then HSr.out hg); have HS := hide hs; clear hK K' hg hs; (try simp only [Act.put, List.getElem_toArray, List.getElem_cons_zero, List.getElem_cons_succ, List.setIfInBounds_toArray, List.set_cons_zero, List.set_cons_succ]); (refine inO_read (v := ?_) rfl rfl (Or.inl ⟨by rfl, ?_⟩) ?_; rotate_left 1; (focus (intro W hSW; clear hSW; go_simp; (try (with_reducible rfl)))); (try simp only [Act.put, List.getElem_toArray, List.getElem_cons_zero, List.getElem_cons_succ, List.setIfInBounds_toArray, List.set_cons_zero, List.set_cons_succ])); (refine inO_act rfl rfl rfl (fun K' hK => ?_)); go_simp; rw [wr_in (x := P) (by omega) (by omega)]; refine (up_at _ _ m0 (by omega)).mono ?_; rw [HU.out]; rintro e w' ⟨rfl, hw⟩; replace hw := hw.symm; subst hw; refine hK _ _ (.inr HSr.out) ?_; clear hK K'; (try simp only [Act.put, List.getElem_toArray, List.getElem_cons_zero, List.getElem_cons_succ, List.setIfInBounds_toArray, List.set_cons_zero, List.set_cons_succ]); (refine inO_read (v := ?_) rfl rfl (Or.inl ⟨by rfl, ?_⟩) ?_; rotate_left 1; (focus (intro W hSW; clear hSW; go_simp; (try (with_reducible rfl)))); (try simp only [Act.put, List.getElem_toArray, List.getElem_cons_zero, List.getElem_cons_succ, List.setIfInBounds_toArray, List.set_cons_zero, List.set_cons_succ])); (refine inO_read (v := ?_) rfl rfl (Or.inl ⟨by rfl, ?_⟩) ?_; rotate_left 1; (focus (intro W hSW; clear hSW; go_simp; (try (with_reducible rfl)))); (try simp only [Act.put, List.getElem_toArray, List.getElem_cons_zero, List.getElem_cons_succ, List.setIfInBounds_toArray, List.set_cons_zero, List.set_cons_succ])); (refine inO_end ?_); clear HC0 HSr)
    go_wp2_with (first | (refine at_store 3 rfl ?_; refine wl_store (us := [.int .i64 (V + 1)]) rfl 3 _ _ rfl rfl rfl tcI.sz rfl HC.out (by repeat (first | exact List.Mem.head _ | apply List.Mem.tail)) (st_put HLt.out _) (by repeat (first | exact Upd.here _ _ _ | apply Upd.there)) ?_; intro w' hc; (replace HC := hide hc; clear hc)))
    go_ret
    (exact ⟨(M').set a (V + 1), rfl, HC.out.grown, HZk.out.next HC.out.grown (HC.out.loc ⟨g, stC ((M').set a (V + 1)), 3⟩ (by repeat (first | exact List.Mem.head _ | apply List.Mem.tail))) (by rw [List.length_set]; exact HS.out.len) (zk_set HLt.out HS.out.ok HV.out)⟩)
  · have hm' : 32769 < U := by omega
    obtain rfl : V = 32769 := by omega
    clear hs
    go_enter Try.func51, Try.ntmps51
    go_wp2_with (first | (refine at_load 32 rfl ?_; refine wl_run rfl 32 _ rfl rfl (run_load_s tyT B _ rfl (HEL.out _ (grown_then HZk.out.gr HC.out.grown (fun y e => by cases e; exact .inr HZk.out.ng)))) ?_) | ((refine at_alloc 32 rfl ?_; refine wl_alloc rfl 32 rfl _ zTy HC.out ?_; intro bx w' hn hc; (replace HC := hide hc; clear hc)); ((try clear c0 c1); obtain ⟨c0, c1⟩ := zk_two (HZk.out.next (M' := M) HC.out.grown (HC.out.loc ⟨g, stC M, 3⟩ (by repeat (first | exact List.Mem.head _ | apply List.Mem.tail))) HS.out.len HS.out.ok))) | ((refine at_store 32 rfl ?_; refine wl_store rfl 32 _ _ rfl rfl rfl tyT.sz rfl HC.out (by repeat (first | exact List.Mem.head _ | apply List.Mem.tail)) (by exact PutS.all _ _ rfl) (by repeat (first | exact Upd.here _ _ _ | apply Upd.there)) ?_; intro w' hc; (replace HC := hide hc; clear hc)); ((try clear c0 c1); obtain ⟨c0, c1⟩ := zk_two (HZk.out.next (M' := M) HC.out.grown (HC.out.loc ⟨g, stC M, 3⟩ (by repeat (first | exact List.Mem.head _ | apply List.Mem.tail))) HS.out.len HS.out.ok))) | (refine at_load 3 rfl ?_; refine wl_load_c rfl 3 _ rfl tcI rfl HC.out (by repeat (first | exact List.Mem.head _ | apply List.Mem.tail)) (by repeat (first | exact GetS.cons _ (GetS.nil _) | apply GetS.skip)) ?_))
    ((replace HC := hide (HC.out.g (d1_g _)); have HC0 := HC; refine wp_region_inO (fun W => World.grownBy _ W (some g)) 99 [0, 1, 2, 3, 4, 6, 8, 9] [0, 1, 2, 3, 4, 5, 6, 7, 8, 9] (by kernel_rfl) (by kernel_rfl) (by kernel_rfl) (by kernel_rfl) (fun _ _ d _ _ h => by cases d <;> exact h) (gr_ref _ _) ?_; have HS := hide (gr_of HC.out (some g))); have HSr := HS; (refine inO_read (v := ?_) rfl rfl (Or.inl ⟨by rfl, ?_⟩) ?_; rotate_left 1; (focus (intro W hSW; clear hSW; go_simp; (try (with_reducible rfl)))); (try simp only [Act.put, List.getElem_toArray, List.getElem_cons_zero, List.getElem_cons_succ, List.setIfInBounds_toArray, List.set_cons_zero, List.set_cons_succ])); (refine inO_read rfl rfl (yl_c tcI rfl rfl rfl HC0.out (by first | assumption | exact nx0 _) (by repeat (first | exact List.Mem.head _ | apply List.Mem.tail)) (by repeat (first | exact GetS.cons _ (GetS.nil _) | apply GetS.skip))) ?_; (try simp only [Act.put, List.getElem_toArray, List.getElem_cons_zero, List.getElem_cons_succ, List.setIfInBounds_toArray, List.set_cons_zero, List.set_cons_succ])); (refine inO_read (v := ?_) rfl rfl (Or.inl ⟨by rfl, ?_⟩) ?_; rotate_left 1; (focus (intro W hSW; clear hSW; go_simp; (try (with_reducible rfl)))); (try simp only [Act.put, List.getElem_toArray, List.getElem_cons_zero, List.getElem_cons_succ, List.setIfInBounds_toArray, List.set_cons_zero, List.set_cons_succ])); (refine inO_read (v := ?_) rfl rfl (Or.inl ⟨by rfl, ?_⟩) ?_; rotate_left 1; (focus (intro W hSW; clear hSW; go_simp; (try (with_reducible rfl)))); (try simp only [Act.put, List.getElem_toArray, List.getElem_cons_zero, List.getElem_cons_succ, List.setIfInBounds_toArray, List.set_cons_zero, List.set_cons_succ])); (refine inO_read rfl rfl (yl_c tcI rfl rfl rfl HC0.out (by first | assumption | exact nx0 _) (by repeat (first | exact List.Mem.head _ | apply List.Mem.tail)) (by repeat (first | exact GetS.cons _ (GetS.nil _) | apply GetS.skip))) ?_; (try simp only [Act.put, List.getElem_toArray, List.getElem_cons_zero, List.getElem_cons_succ, List.setIfInBounds_toArray, List.set_cons_zero, List.set_cons_succ])); (refine inO_act rfl rfl rfl (fun K' hK => ?_)); go_simp; refine (HZ.out M _ j (HZk.out.next (M' := M) HC.out.grown (HC.out.loc ⟨g, stC M, 3⟩ (by repeat (first | exact List.Mem.head _ | apply List.Mem.tail))) HZk.out.len HZk.out.ok) HJ.out HR.out).mono ?_; rw [HZv.out]; rintro e w2 ⟨M', rfl, hg, hs⟩; replace HC := hide (HC.out.callX hg (by repeat (first | exact List.Mem.head _ | apply List.Mem.tail)) hs.blk (by repeat (first | exact Upd.here _ _ _ | apply Upd.there))); clear c0 c1; obtain ⟨c0, c1⟩ := zk_two hs; replace HLt := hide (show a < M'.length by rw [hs.len]; exact HA.out); refine hK _ _ (.inr (gr_then HSr.out hg)) ?_; replace HSr := hide (gr_then HSr.out hg); have HS := hide hs; clear hK K' hg hs; (try simp only [Act.put, List.getElem_toArray, List.getElem_cons_zero, List.getElem_cons_succ, List.setIfInBounds_toArray, List.set_cons_zero, List.set_cons_succ]); (refine inO_read (v := ?_) rfl rfl (Or.inl ⟨by rfl, ?_⟩) ?_; rotate_left 1; (focus (intro W hSW; clear hSW; go_simp; (try (with_reducible rfl)))); (try simp only [Act.put, List.getElem_toArray, List.getElem_cons_zero, List.getElem_cons_succ, List.setIfInBounds_toArray, List.set_cons_zero, List.set_cons_succ])); (refine inO_act rfl rfl rfl (fun K' hK => ?_)); go_simp; rw [wr_in (x := P) (by omega) (by omega)]; refine (up_at _ _ m0 (by omega)).mono ?_; rw [HU.out]; rintro e w' ⟨rfl, hw⟩; replace hw := hw.symm; subst hw; refine hK _ _ (.inr HSr.out) ?_; clear hK K'; (try simp only [Act.put, List.getElem_toArray, List.getElem_cons_zero, List.getElem_cons_succ, List.setIfInBounds_toArray, List.set_cons_zero, List.set_cons_succ]); (refine inO_read (v := ?_) rfl rfl (Or.inl ⟨by rfl, ?_⟩) ?_; rotate_left 1; (focus (intro W hSW; clear hSW; go_simp; (try (with_reducible rfl)))); (try simp only [Act.put, List.getElem_toArray, List.getElem_cons_zero, List.getElem_cons_succ, List.setIfInBounds_toArray, List.set_cons_zero, List.set_cons_succ])); (refine inO_read (v := ?_) rfl rfl (Or.inl ⟨by rfl, ?_⟩) ?_; rotate_left 1; (focus (intro W hSW; clear hSW; go_simp; (try (with_reducible rfl)))); (try simp only [Act.put, List.getElem_toArray, List.getElem_cons_zero, List.getElem_cons_succ, List.setIfInBounds_toArray, List.set_cons_zero, List.set_cons_succ])); (refine inO_end ?_); clear HC0 HSr)
    go_wp2_with (first | (refine at_store 3 rfl ?_; refine wl_store (us := [.int .i64 (32769 + 1)]) rfl 3 _ _ rfl rfl rfl tcI.sz rfl HC.out (by repeat (first | exact List.Mem.head _ | apply List.Mem.tail)) (st_put HLt.out _) (by repeat (first | exact Upd.here _ _ _ | apply Upd.there)) ?_; intro w' hc; (replace HC := hide hc; clear hc)))
    go_ret
    (exact ⟨(M').set a (32769 + 1), rfl, HC.out.grown, HZk.out.next HC.out.grown (HC.out.loc ⟨g, stC ((M').set a (32769 + 1)), 3⟩ (by repeat (first | exact List.Mem.head _ | apply List.Mem.tail))) (by rw [List.length_set]; exact HS.out.len) (zk_set HLt.out HS.out.ok HV.out)⟩)
end
end Go.Proofs.Ytnolelgmcmgohaa.Ty
