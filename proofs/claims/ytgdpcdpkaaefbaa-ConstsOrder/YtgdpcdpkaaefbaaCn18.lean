/-
  Package consts: Two.
-/
import Derived.Test.YtgdpcdpkaaefbaaCn17
namespace Go.Proofs.Ytgdpcdpkaaefbaa.Cn
open Go.RowKit hiding Hid
open Go.Maps Go.Proofs.Ytgdpcdpkaaefbaa.Tx Go.Proofs.Ytgdpcdpkaaefbaa.Lx Go.Proofs.Ytgdpcdpkaaefbaa.Mp Go.Proofs.Ytgdpcdpkaaefbaa.Bits Go.Proofs.Ytgdpcdpkaaefbaa.Tr
set_option linter.unusedVariables false
set_option linter.unusedSimpArgs false
set_option maxRecDepth 100000

def twosE : List (Ky × Cd) := litE ++ relE
def twoP (s : List UInt8) (a b : Vl) : Rs := if goodV a = true ∧ goodV b = true then rk twosE s (besV a b) (besV b a) else noR
theorem good_bes {a : Vl} (h : goodV a = true) (b : Vl) : goodV (besV a b) = true := by
  unfold besV
  split
  · have : (a.t.headD 0).toNat < 256 := (a.t.headD 0).toNat_lt
    rw [goodV_n (v := ⟨3, _, []⟩) (by show ¬ (3 : Int) = 6; decide)]
    dsimp only
    rw [goodN_3]
    simp only [wiB, List.isEmpty_nil, Bool.true_and, Bool.and_eq_true, decide_eq_true_eq]
    omega
  · exact h
theorem cellf {w0 w : World} {A : Nat → Prop} {X : Option Nat} {p : Lc} {L : List Lc} {Rs : List Rw} {Ts : List (List Dt × List Value)} {b : Nat} {u0 u1 u2 : Value} {t : TypeId} (H : Cx w0 A X (p :: ⟨b, [u0, u1, u2], t⟩ :: L) Rs Ts w) : w.cell? ⟨b, 0, none⟩ = some u0 ∧ w.cell? ⟨b, 1, none⟩ = some u1 ∧ w.cell? ⟨b, 2, none⟩ = some u2 :=
  ⟨cell_of_row _ _ _ _ _ _ (H.loc _ (.tail _ (.head _))), cell_of_row _ _ _ _ _ _ (H.loc _ (.tail _ (.head _))), cell_of_row _ _ _ _ _ _ (H.loc _ (.tail _ (.head _)))⟩
theorem good_as {v : Vl} (hv : v.t.length ≤ 9223372036854775807) {B : Bool} (h : goodV v = B) : ∀ W, Calls Try.prog 15 #[.agg #[.int .i64 v.f, .int .i64 v.n, .string (bs v.t)]] W (Told W (.bool B)) := fun W => by
  have := good_at v hv W
  rw [h] at this
  exact this
theorem beside_as {a b v : Vl} (ha : a.t.length ≤ 9223372036854775807) (h : besV a b = v) : ∀ W, Calls Try.prog 36 #[.agg #[.int .i64 a.f, .int .i64 a.n, .string (bs a.t)], .agg #[.int .i64 b.f, .int .i64 b.n, .string (bs b.t)]] W (Told W (.agg #[.int .i64 v.f, .int .i64 v.n, .string (bs v.t)])) := fun W => by
  have := beside_at a b ha W
  rw [h] at this
  exact this
set_option maxHeartbeats 3200000 in
theorem two_at (s : List UInt8) (hs : s.length ≤ maxLen) (a b : Vl) (ha : a.t.length ≤ 9223372036854775807) (hb : b.t.length ≤ 9223372036854775807) (w : World) : Calls Try.prog 17 #[.string (bs s), vV a, vV b] w (Told w (rsV (twoP s a b))) := by
  have HC := hide (Cx.start w (fun _ => False))
  unfold twoP
  cases hga : goodV a with
  | false =>
    rw [if_neg (by simp)]
    have HA := hide (good_as ha hga)
    unfold vV noR rsV
    have M1 := True.intro
    clear hga
    go_enter Try.func17, Try.ntmps17
    go_wp2_with (first | (refine at_box 23 rfl ?_; refine wl_box rfl 23 _ rfl _ rfl HC.out ?_; intro b w' hn hc; (replace HC := hide hc; clear hc)) | (refine at_alloc 23 rfl ?_; refine wl_alloc rfl 23 rfl _ zV HC.out ?_; intro b w' hn hc; (replace HC := hide hc; clear hc)) | (refine at_load 23 rfl ?_; refine wl_load_s rfl 23 _ rfl tyV rfl HC.out (by repeat (first | exact List.Mem.head _ | apply List.Mem.tail)) (GetS.all _) rfl ?_) | (clear M1; go_at_call 15; refine (HA.out _).mono ?_; rintro e w2 ⟨rfl, hg⟩; (replace HC := hide (HC.out.g hg); clear hg); obtain ⟨e0, e1, e2⟩ := cellf HC.out) | (refine at_store 23 rfl ?_; refine wl_store rfl 23 _ _ rfl rfl rfl tyV.sz rfl HC.out (by repeat (first | exact List.Mem.head _ | apply List.Mem.tail)) (by exact PutS.all _ _ rfl) (by repeat (first | exact Upd.here _ _ _ | apply Upd.there)) ?_; intro w' hc; (replace HC := hide hc; clear hc)))
    refine ret_two Try.results17 rfl rfl HC.out (by repeat (first | exact List.Mem.head _ | apply List.Mem.tail)) tyV rfl ?_
    exact ⟨rfl, HC.out.grown⟩
  | true =>
    have HA := hide (good_as ha hga)
    cases hgb : goodV b with
    | false =>
      rw [if_neg (by simp)]
      have HB := hide (good_as hb hgb)
      unfold vV noR rsV
      have M1 := True.intro
      clear hga hgb
      go_enter Try.func17, Try.ntmps17
      go_wp2_with (first | (refine at_box 23 rfl ?_; refine wl_box rfl 23 _ rfl _ rfl HC.out ?_; intro b w' hn hc; (replace HC := hide hc; clear hc)) | (refine at_alloc 23 rfl ?_; refine wl_alloc rfl 23 rfl _ zV HC.out ?_; intro b w' hn hc; (replace HC := hide hc; clear hc)) | (refine at_load 23 rfl ?_; refine wl_load_s rfl 23 _ rfl tyV rfl HC.out (by repeat (first | exact List.Mem.head _ | apply List.Mem.tail)) (GetS.all _) rfl ?_) | (clear M1; go_at_call 15; refine (HA.out _).mono ?_; rintro e w2 ⟨rfl, hg⟩; (replace HC := hide (HC.out.g hg); clear hg); obtain ⟨e0, e1, e2⟩ := cellf HC.out) | (go_at_call 15; refine (HB.out _).mono ?_; rintro e w2 ⟨rfl, hg⟩; clear e0 e1 e2; (replace HC := hide (HC.out.g hg); clear hg)) | (refine at_store 23 rfl ?_; refine wl_store rfl 23 _ _ rfl rfl rfl tyV.sz rfl HC.out (by repeat (first | exact List.Mem.head _ | apply List.Mem.tail)) (by exact PutS.all _ _ rfl) (by repeat (first | exact Upd.here _ _ _ | apply Upd.there)) ?_; intro w' hc; (replace HC := hide hc; clear hc)))
      refine ret_two Try.results17 rfl rfl HC.out (by repeat (first | exact List.Mem.head _ | apply List.Mem.tail)) tyV rfl ?_
      exact ⟨rfl, HC.out.grown⟩
    | true =>
      rw [if_pos ⟨rfl, rfl⟩]
      have HB := hide (good_as hb hgb)
      have g1 := good_bes hga b
      have g2 := good_bes hgb a
      obtain ⟨x, hx⟩ : ∃ x, besV a b = x := ⟨_, rfl⟩
      obtain ⟨y, hy⟩ : ∃ x, besV b a = x := ⟨_, rfl⟩
      have HX := hide (beside_as ha hx)
      have HY := hide (beside_as hb hy)
      rw [hx] at g1 ⊢
      rw [hy] at g2 ⊢
      obtain ⟨⟨⟨rf, rn, rt⟩, re⟩, hI⟩ : ∃ R, rk twosE s x y = R := ⟨_, rfl⟩
      have HR := hide (reckon_as twos_nd (.inl g1) (.inl g2) hs (mul_of (by kernel_rfl)) hI)
      rw [hI]
      unfold vV rsV
      dsimp only
      have M1 := True.intro
      clear hga hgb hI g1 g2 hx hy
      go_enter Try.func17, Try.ntmps17
      go_wp2_with (first | (refine at_box 23 rfl ?_; refine wl_box rfl 23 _ rfl _ rfl HC.out ?_; intro b w' hn hc; (replace HC := hide hc; clear hc)) | (refine at_alloc 23 rfl ?_; refine wl_alloc rfl 23 rfl _ zV HC.out ?_; intro b w' hn hc; (replace HC := hide hc; clear hc)) | (refine at_load 23 rfl ?_; refine wl_load_s rfl 23 _ rfl tyV rfl HC.out (by repeat (first | exact List.Mem.head _ | apply List.Mem.tail)) (GetS.all _) rfl ?_) | (clear M1; go_at_call 15; refine (HA.out _).mono ?_; rintro e w2 ⟨rfl, hg⟩; (replace HC := hide (HC.out.g hg); clear hg); obtain ⟨e0, e1, e2⟩ := cellf HC.out) | (go_at_call 15; refine (HB.out _).mono ?_; rintro e w2 ⟨rfl, hg⟩; clear e0 e1 e2; (replace HC := hide (HC.out.g hg); clear hg)))
      (replace HC := hide (HC.out.g (d1_g _)); have HC0 := HC; refine wp_region_inO (fun W => World.grownBy _ W (some b)) 99 [1, 2, 3, 5, 6, 9, 10, 12] [1, 2, 3, 5, 6, 0, 4, 7, 8, 9, 10, 11, 12] (by kernel_rfl) (by kernel_rfl) (by kernel_rfl) (by kernel_rfl) (fun _ _ d _ _ h => by cases d <;> exact h) (gr_ref _ _) ?_; have HS := hide (gr_of HC.out (some b)))
      (refine inO_read (v := ?_) rfl rfl (Or.inl ⟨by rfl, ?_⟩) ?_; rotate_left 1; (focus (intro W hSW; clear hSW; go_simp; (try (with_reducible rfl)))); (try simp only [Act.put, List.getElem_toArray, List.getElem_cons_zero, List.getElem_cons_succ, List.setIfInBounds_toArray, List.set_cons_zero, List.set_cons_succ]))
      (refine inO_read rfl rfl (yl_s tyV rfl rfl rfl HC0.out (nx_head HC0.out (p := ⟨_, _, _⟩) (by repeat (first | exact List.Mem.head _ | apply List.Mem.tail))) (by repeat (first | exact List.Mem.head _ | apply List.Mem.tail)) (GetS.all _) rfl) ?_; (try simp only [Act.put, List.getElem_toArray, List.getElem_cons_zero, List.getElem_cons_succ, List.setIfInBounds_toArray, List.set_cons_zero, List.set_cons_succ]))
      (refine inO_read rfl rfl (yl_s tyV rfl rfl rfl HC0.out (nx_head HC0.out (p := ⟨_, _, _⟩) (by repeat (first | exact List.Mem.head _ | apply List.Mem.tail))) (by repeat (first | exact List.Mem.head _ | apply List.Mem.tail)) (GetS.all _) rfl) ?_; (try simp only [Act.put, List.getElem_toArray, List.getElem_cons_zero, List.getElem_cons_succ, List.setIfInBounds_toArray, List.set_cons_zero, List.set_cons_succ]))
      (refine inO_read rfl rfl (yl_s tyV rfl rfl rfl HC0.out (nx_head HC0.out (p := ⟨_, _, _⟩) (by repeat (first | exact List.Mem.head _ | apply List.Mem.tail))) (by repeat (first | exact List.Mem.head _ | apply List.Mem.tail)) (GetS.all _) rfl) ?_; (try simp only [Act.put, List.getElem_toArray, List.getElem_cons_zero, List.getElem_cons_succ, List.setIfInBounds_toArray, List.set_cons_zero, List.set_cons_succ]))
      (refine inO_read rfl rfl (yl_s tyV rfl rfl rfl HC0.out (nx_head HC0.out (p := ⟨_, _, _⟩) (by repeat (first | exact List.Mem.head _ | apply List.Mem.tail))) (by repeat (first | exact List.Mem.head _ | apply List.Mem.tail)) (GetS.all _) rfl) ?_; (try simp only [Act.put, List.getElem_toArray, List.getElem_cons_zero, List.getElem_cons_succ, List.setIfInBounds_toArray, List.set_cons_zero, List.set_cons_succ]))
      (refine inO_act rfl rfl rfl (fun K' hK => ?_))
      go_simp
      refine (twos_at _).mono ?_
      rintro e w1 ⟨mb, rfl, hg, hM⟩
      have HM := hide hM
      clear hM
      (replace HC := hide (HC.out.g hg); refine hK _ _ (.inr (gr_then0 HS.out hg)) ?_; replace HS := hide (gr_then0 HS.out hg); clear hK K' hg; (try simp only [Act.put, List.getElem_toArray, List.getElem_cons_zero, List.getElem_cons_succ, List.setIfInBounds_toArray, List.set_cons_zero, List.set_cons_succ]))
      (refine inO_act rfl rfl rfl (fun K' hK => ?_))
      go_simp
      refine (HX.out _).mono ?_
      rintro e w1 ⟨rfl, hg⟩
      replace HM := hide (HM.out.g hg)
      (replace HC := hide (HC.out.g hg); refine hK _ _ (.inr (gr_then0 HS.out hg)) ?_; replace HS := hide (gr_then0 HS.out hg); clear hK K' hg; (try simp only [Act.put, List.getElem_toArray, List.getElem_cons_zero, List.getElem_cons_succ, List.setIfInBounds_toArray, List.set_cons_zero, List.set_cons_succ]))
      (refine inO_act rfl rfl rfl (fun K' hK => ?_))
      go_simp
      refine (HY.out _).mono ?_
      rintro e w1 ⟨rfl, hg⟩
      replace HM := hide (HM.out.g hg)
      (replace HC := hide (HC.out.g hg); refine hK _ _ (.inr (gr_then0 HS.out hg)) ?_; replace HS := hide (gr_then0 HS.out hg); clear hK K' hg; (try simp only [Act.put, List.getElem_toArray, List.getElem_cons_zero, List.getElem_cons_succ, List.setIfInBounds_toArray, List.set_cons_zero, List.set_cons_succ]))
      (refine inO_act rfl rfl rfl (fun K' hK => ?_))
      go_simp
      refine (HR.out _ mb HM.out).mono ?_
      rintro e w1 ⟨rfl, hg⟩
      (replace HC := hide (HC.out.g hg); refine hK _ _ (.inr (gr_then0 HS.out hg)) ?_; replace HS := hide (gr_then0 HS.out hg); clear hK K' hg; (try simp only [Act.put, List.getElem_toArray, List.getElem_cons_zero, List.getElem_cons_succ, List.setIfInBounds_toArray, List.set_cons_zero, List.set_cons_succ]))
      (refine inO_read (v := ?_) rfl rfl (Or.inl ⟨by rfl, ?_⟩) ?_; rotate_left 1; (focus (intro W hSW; clear hSW; go_simp; (try (with_reducible rfl)))); (try simp only [Act.put, List.getElem_toArray, List.getElem_cons_zero, List.getElem_cons_succ, List.setIfInBounds_toArray, List.set_cons_zero, List.set_cons_succ]))
      (refine inO_read (v := ?_) rfl rfl (Or.inl ⟨by rfl, ?_⟩) ?_; rotate_left 1; (focus (intro W hSW; clear hSW; go_simp; (try (with_reducible rfl)))); (try simp only [Act.put, List.getElem_toArray, List.getElem_cons_zero, List.getElem_cons_succ, List.setIfInBounds_toArray, List.set_cons_zero, List.set_cons_succ]))
      ((refine inO_act rfl rfl rfl (fun K' hK => ?_)); refine op_store_g _ _ _ rfl rfl rfl tyV.sz rfl HC.out (by repeat (first | exact List.Mem.head _ | apply List.Mem.tail)) (by exact PutS.all _ _ rfl) (by repeat (first | exact Upd.here _ _ _ | apply Upd.there)) ?_; intro w' hg hc; (replace HC := hide hc; clear hc); refine hK _ _ (.inr (gr_then HS.out hg)) ?_; replace HS := hide (gr_then HS.out hg); clear hK K' hg; (try simp only [Act.put, List.getElem_toArray, List.getElem_cons_zero, List.getElem_cons_succ, List.setIfInBounds_toArray, List.set_cons_zero, List.set_cons_succ]))
      (refine inO_read (v := ?_) rfl rfl (Or.inl ⟨by rfl, ?_⟩) ?_; rotate_left 1; (focus (intro W hSW; clear hSW; go_simp; (try (with_reducible rfl)))); (try simp only [Act.put, List.getElem_toArray, List.getElem_cons_zero, List.getElem_cons_succ, List.setIfInBounds_toArray, List.set_cons_zero, List.set_cons_succ]))
      (refine inO_end ?_)
      go_wp2
      refine ret_two Try.results17 rfl rfl HC.out (by repeat (first | exact List.Mem.head _ | apply List.Mem.tail)) tyV rfl ?_
      exact ⟨rfl, HC.out.grown⟩
end Go.Proofs.Ytgdpcdpkaaefbaa.Cn
