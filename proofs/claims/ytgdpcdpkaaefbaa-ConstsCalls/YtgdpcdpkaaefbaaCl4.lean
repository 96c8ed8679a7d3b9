/-
  ConstsOne, walked.
-/
import Derived.Test.YtgdpcdpkaaefbaaCl3
import Derived.Test.YtgdpcdpkaaefbaaCr3
namespace Go.Proofs.Ytgdpcdpkaaefbaa.Cn
open Go.RowKit hiding Hid
open Go.Maps Go.Proofs.Ytgdpcdpkaaefbaa.Tx Go.Proofs.Ytgdpcdpkaaefbaa.Lx Go.Proofs.Ytgdpcdpkaaefbaa.Mp Go.Proofs.Ytgdpcdpkaaefbaa.Bits Go.Proofs.Ytgdpcdpkaaefbaa.Tr Go.Proofs.Ytgdpcdpkaaefbaa.Bm
set_option linter.unusedVariables false
set_option linter.unusedSimpArgs false
set_option maxRecDepth 100000

theorem large_as {l : List Vl} (hl : l.length ≤ 100) (ht : ∀ v ∈ l, v.t.length ≤ 9223372036854775807) {B : Bool} (h : l.any bigV = B) : ∀ (W : World) (o : Option Addr) (cp : Nat), Cls W o (l.flatMap vC) → Calls Try.prog 10 #[.slice o l.length cp] W fun e w' => e = .returned (.bool B) ∧ w' = W := fun W o cp hc => by
  have := large_at (cp := cp) (by omega) ht hc
  rw [h] at this
  exact this
set_option maxHeartbeats 6400000 in
theorem lone_walk (s : List UInt8) (hs : s.length ≤ maxLen) (v : Vl) (hv : v.t.length ≤ maxLen) (w : World) : Calls Try.prog 3 #[.string (bs s), vV v] w (Told w (.bool true)) := by
  have hv' : v.t.length ≤ 9223372036854775807 := Nat.le_trans hv (by unfold maxLen; decide)
  have HC := hide (Cx.start w (fun _ => False))
  have HOne := fun W => one_at s hs v hv' W
  have HROne := fun W => rone_at s v hv' W
  obtain ⟨⟨⟨rf, rn, rt⟩, re⟩, hI⟩ : ∃ R, oneP s v = R := ⟨_, rfl⟩
  rw [hI] at HOne HROne
  have HG := fun W => good_at v hv' W
  have HRG := fun W => rgood_at v hv' W
  obtain ⟨B, hB⟩ : ∃ B, goodV v = B := ⟨_, rfl⟩
  rw [hB] at HG HRG
  have HSM := hide (fun W => same_self ⟨rf, rn, rt⟩ W)
  obtain ⟨L, hL⟩ : ∃ L, [v].any bigV = L := ⟨_, rfl⟩
  have HLG := hide (large_as (l := [v]) (by simp) (by simpa using hv') hL)
  obtain ⟨f, n, t⟩ := v
  unfold rsV vV at *
  dsimp only at HOne HROne HG HRG HSM
  replace HOne := hide HOne
  replace HROne := hide HROne
  replace HG := hide HG
  replace HRG := hide HRG
  clear hI hB hL hv hv' hs
  cases L with
  | true =>
    go_enter Try.func3, Try.ntmps3
    go_wp2_with (first | (refine at_box 23 rfl ?_; refine wl_box rfl 23 _ rfl _ rfl HC.out ?_; intro b w' hn hc; (replace HC := hide hc; clear hc)) | (refine at_load 23 rfl ?_; refine wl_load_s rfl 23 _ rfl tyV rfl HC.out (by repeat (first | exact List.Mem.head _ | apply List.Mem.tail)) (GetS.all _) rfl ?_) | (refine at_bs 37 rfl ?_; refine wl_bl rfl 37 _ _ rfl 23 [.int .i64 f, .int .i64 n, .string (bs t)] HC.out (by kernel_rfl) ?_; intro b w' hn hc; (replace HC := hide hc; clear hc)) | (go_at_call 10; refine (HLG.out _ _ _ (cls_of HC.out (by repeat (first | exact List.Mem.head _ | apply List.Mem.tail)))).mono ?_; rintro e w2 ⟨rfl, rfl⟩) | (go_at_call 11; refine (wakes_at _).mono ?_; rintro e w2 ⟨rfl, hg⟩; (replace HC := hide (HC.out.g hg); clear hg)))
    go_ret
    exact ⟨rfl, HC.out.grown⟩
  | false =>
    go_enter Try.func3, Try.ntmps3
    go_wp2_with (first | (refine at_box 23 rfl ?_; refine wl_box rfl 23 _ rfl _ rfl HC.out ?_; intro b w' hn hc; (replace HC := hide hc; clear hc)) | (refine at_load 23 rfl ?_; refine wl_load_s rfl 23 _ rfl tyV rfl HC.out (by repeat (first | exact List.Mem.head _ | apply List.Mem.tail)) (GetS.all _) rfl ?_) | (refine at_bs 37 rfl ?_; refine wl_bl rfl 37 _ _ rfl 23 [.int .i64 f, .int .i64 n, .string (bs t)] HC.out (by kernel_rfl) ?_; intro b w' hn hc; (replace HC := hide hc; clear hc)) | (go_at_call 10; refine (HLG.out _ _ _ (cls_of HC.out (by repeat (first | exact List.Mem.head _ | apply List.Mem.tail)))).mono ?_; rintro e w2 ⟨rfl, rfl⟩) | (go_at_call 12; (refine (HOne.out _).mono ?_; rintro e w2 ⟨rfl, hg⟩; (replace HC := hide (HC.out.g hg); clear hg))) | (go_at_call 13; (refine (HROne.out _).mono ?_; rintro e w2 ⟨rfl, hg⟩; (replace HC := hide (HC.out.g hg); clear hg))) | (refine at_alloc 23 rfl ?_; refine wl_alloc rfl 23 rfl _ zV HC.out ?_; intro b w' hn hc; (replace HC := hide hc; clear hc)) | (refine at_store 23 rfl ?_; refine wl_store rfl 23 _ _ rfl rfl rfl tyV.sz rfl HC.out (by repeat (first | exact List.Mem.head _ | apply List.Mem.tail)) (by exact PutS.all _ _ rfl) (by repeat (first | exact Upd.here _ _ _ | apply Upd.there)) ?_; intro w' hc; (replace HC := hide hc; clear hc)))
    (replace HC := hide (HC.out.g (d1_g _)); have HC0 := HC; refine wp_region_inO (fun W => World.grownBy _ W none) 99 [0, 1, 3, 4, 5, 6, 7, 8, 9, 11, 13, 14, 15, 17, 18] [0, 1, 2, 3, 4, 5, 6, 7, 8, 9, 11, 10, 12, 13, 14, 15, 16, 17, 18] (by kernel_rfl) (by kernel_rfl) (by kernel_rfl) (by kernel_rfl) (fun _ _ d _ _ h => by cases d <;> exact h) (gr_ref _ _) ?_; have HS := hide (gr_of HC.out none))
    (refine inO_read rfl rfl (yl_s tyV rfl rfl rfl HC0.out (by first | assumption | exact nx0 _) (by repeat (first | exact List.Mem.head _ | apply List.Mem.tail)) (GetS.all _) rfl) ?_; (try simp only [Act.put, List.getElem_toArray, List.getElem_cons_zero, List.getElem_cons_succ, List.setIfInBounds_toArray, List.set_cons_zero, List.set_cons_succ]))
    (refine inO_read rfl rfl (yl_s tyV rfl rfl rfl HC0.out (by first | assumption | exact nx0 _) (by repeat (first | exact List.Mem.head _ | apply List.Mem.tail)) (GetS.all _) rfl) ?_; (try simp only [Act.put, List.getElem_toArray, List.getElem_cons_zero, List.getElem_cons_succ, List.setIfInBounds_toArray, List.set_cons_zero, List.set_cons_succ]))
    (refine inO_act rfl rfl rfl (fun K' hK => ?_))
    go_simp
    refine (HSM.out _).mono ?_
    rintro e w1 ⟨rfl, hg⟩
    (replace HC := hide (HC.out.g hg); refine hK _ _ (.inr (gr_then0 HS.out hg)) ?_; replace HS := hide (gr_then0 HS.out hg); clear hK K' hg; (try simp only [Act.put, List.getElem_toArray, List.getElem_cons_zero, List.getElem_cons_succ, List.setIfInBounds_toArray, List.set_cons_zero, List.set_cons_succ]))
    (refine inO_read (v := ?_) rfl rfl (Or.inl ⟨by rfl, ?_⟩) ?_; rotate_left 1; (focus (intro W hSW; clear hSW; go_simp; (try (with_reducible rfl)))); (try simp only [Act.put, List.getElem_toArray, List.getElem_cons_zero, List.getElem_cons_succ, List.setIfInBounds_toArray, List.set_cons_zero, List.set_cons_succ]))
    (refine inO_read (v := ?_) rfl rfl (Or.inl ⟨by rfl, ?_⟩) ?_; rotate_left 1; (focus (intro W hSW; clear hSW; go_simp; (try (with_reducible rfl)))); (try simp only [Act.put, List.getElem_toArray, List.getElem_cons_zero, List.getElem_cons_succ, List.setIfInBounds_toArray, List.set_cons_zero, List.set_cons_succ]))
    (refine inO_read (v := ?_) rfl rfl (Or.inl ⟨by rfl, ?_⟩) ?_; rotate_left 1; (focus (intro W hSW; clear hSW; go_simp; (try (with_reducible rfl)))); (try simp only [Act.put, List.getElem_toArray, List.getElem_cons_zero, List.getElem_cons_succ, List.setIfInBounds_toArray, List.set_cons_zero, List.set_cons_succ]))
    (refine inO_read (v := ?_) rfl rfl (Or.inl ⟨by rfl, ?_⟩) ?_; rotate_left 1; (focus (intro W hSW; clear hSW; go_simp; (try (with_reducible rfl)))); (try simp only [Act.put, List.getElem_toArray, List.getElem_cons_zero, List.getElem_cons_succ, List.setIfInBounds_toArray, List.set_cons_zero, List.set_cons_succ]))
    (refine inO_read (v := ?_) rfl rfl (Or.inl ⟨by rfl, ?_⟩) ?_; rotate_left 1; (focus (intro W hSW; clear hSW; go_simp; (try (with_reducible rfl)))); (try simp only [Act.put, List.getElem_toArray, List.getElem_cons_zero, List.getElem_cons_succ, List.setIfInBounds_toArray, List.set_cons_zero, List.set_cons_succ]))
    (refine inO_read (v := ?_) rfl rfl (Or.inl ⟨by rfl, ?_⟩) ?_; rotate_left 1; (focus (intro W hSW; clear hSW; go_simp; (try (with_reducible rfl)))); (try simp only [Act.put, List.getElem_toArray, List.getElem_cons_zero, List.getElem_cons_succ, List.setIfInBounds_toArray, List.set_cons_zero, List.set_cons_succ]))
    (refine inO_read rfl rfl (yl_s tyV rfl rfl rfl HC0.out (by first | assumption | exact nx0 _) (by repeat (first | exact List.Mem.head _ | apply List.Mem.tail)) (GetS.all _) rfl) ?_; (try simp only [Act.put, List.getElem_toArray, List.getElem_cons_zero, List.getElem_cons_succ, List.setIfInBounds_toArray, List.set_cons_zero, List.set_cons_succ]))
    (refine inO_read rfl rfl (yl_s tyV rfl rfl rfl HC0.out (by first | assumption | exact nx0 _) (by repeat (first | exact List.Mem.head _ | apply List.Mem.tail)) (GetS.all _) rfl) ?_; (try simp only [Act.put, List.getElem_toArray, List.getElem_cons_zero, List.getElem_cons_succ, List.setIfInBounds_toArray, List.set_cons_zero, List.set_cons_succ]))
    (refine inO_act rfl rfl rfl (fun K' hK => ?_))
    go_simp
    refine (HG.out _).mono ?_
    rintro e w1 ⟨rfl, hg⟩
    (replace HC := hide (HC.out.g hg); refine hK _ _ (.inr (gr_then0 HS.out hg)) ?_; replace HS := hide (gr_then0 HS.out hg); clear hK K' hg; (try simp only [Act.put, List.getElem_toArray, List.getElem_cons_zero, List.getElem_cons_succ, List.setIfInBounds_toArray, List.set_cons_zero, List.set_cons_succ]))
    (refine inO_act rfl rfl rfl (fun K' hK => ?_))
    go_simp
    refine (HRG.out _).mono ?_
    rintro e w1 ⟨rfl, hg⟩
    (replace HC := hide (HC.out.g hg); refine hK _ _ (.inr (gr_then0 HS.out hg)) ?_; replace HS := hide (gr_then0 HS.out hg); clear hK K' hg; (try simp only [Act.put, List.getElem_toArray, List.getElem_cons_zero, List.getElem_cons_succ, List.setIfInBounds_toArray, List.set_cons_zero, List.set_cons_succ]))
    (refine inO_read (v := ?_) rfl rfl (Or.inl ⟨by rfl, ?_⟩) ?_; rotate_left 1; (focus (intro W hSW; clear hSW; go_simp; (try (with_reducible rfl)))); (try simp only [Act.put, List.getElem_toArray, List.getElem_cons_zero, List.getElem_cons_succ, List.setIfInBounds_toArray, List.set_cons_zero, List.set_cons_succ]))
    (refine inO_read (v := ?_) rfl rfl (Or.inl ⟨by rfl, ?_⟩) ?_; rotate_left 1; (focus (intro W hSW; clear hSW; go_simp; (try (with_reducible rfl)))); (try simp only [Act.put, List.getElem_toArray, List.getElem_cons_zero, List.getElem_cons_succ, List.setIfInBounds_toArray, List.set_cons_zero, List.set_cons_succ]))
    (refine inO_read (v := ?_) rfl rfl (Or.inl ⟨by rfl, ?_⟩) ?_; rotate_left 1; (focus (intro W hSW; clear hSW; go_simp; (try (with_reducible rfl)))); (try simp only [Act.put, List.getElem_toArray, List.getElem_cons_zero, List.getElem_cons_succ, List.setIfInBounds_toArray, List.set_cons_zero, List.set_cons_succ]))
    (refine inO_act rfl rfl rfl (fun K' hK => ?_))
    go_simp
    refine (wakes_at _).mono ?_
    rintro e w1 ⟨rfl, hg⟩
    (replace HC := hide (HC.out.g hg); refine hK _ _ (.inr (gr_then0 HS.out hg)) ?_; replace HS := hide (gr_then0 HS.out hg); clear hK K' hg; (try simp only [Act.put, List.getElem_toArray, List.getElem_cons_zero, List.getElem_cons_succ, List.setIfInBounds_toArray, List.set_cons_zero, List.set_cons_succ]))
    (refine inO_read (v := ?_) rfl rfl (Or.inl ⟨by rfl, ?_⟩) ?_; rotate_left 1; (focus (intro W hSW; clear hSW; go_simp; (try (with_reducible rfl)))); (try simp only [Act.put, List.getElem_toArray, List.getElem_cons_zero, List.getElem_cons_succ, List.setIfInBounds_toArray, List.set_cons_zero, List.set_cons_succ]))
    (refine inO_read (v := ?_) rfl rfl (Or.inl ⟨by rfl, ?_⟩) ?_; rotate_left 1; (focus (intro W hSW; clear hSW; go_simp; (try (with_reducible rfl)))); (try simp only [Act.put, List.getElem_toArray, List.getElem_cons_zero, List.getElem_cons_succ, List.setIfInBounds_toArray, List.set_cons_zero, List.set_cons_succ]))
    (refine inO_end ?_)
    go_wp2
    go_ret
    exact ⟨rfl, HC.out.grown⟩
end Go.Proofs.Ytgdpcdpkaaefbaa.Cn
