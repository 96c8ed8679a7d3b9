/-
  The laws of layer 12: num, set, wakes.
-/
import Derived.Test.YtgdpcdpkaaefbaaCn20
namespace Go.Proofs.Ytgdpcdpkaaefbaa.Cn
open Go.RowKit hiding Hid
open Go.Maps Go.Proofs.Ytgdpcdpkaaefbaa.Tx Go.Proofs.Ytgdpcdpkaaefbaa.Lx Go.Proofs.Ytgdpcdpkaaefbaa.Mp Go.Proofs.Ytgdpcdpkaaefbaa.Bits Go.Proofs.Ytgdpcdpkaaefbaa.Tr Go.Proofs.Ytgdpcdpkaaefbaa.Bm
set_option linter.unusedVariables false
set_option linter.unusedSimpArgs false
set_option maxRecDepth 100000

set_option maxHeartbeats 1600000 in
theorem num_at (n : Int) (w : World) : Calls Try.prog 23 #[.int .i64 n] w (Told w (.agg #[.int .i64 1, .int .i64 n, .string (bs [])])) := by
  have HC := hide (Cx.start w (fun _ => False))
  go_enter Try.func23, Try.ntmps23
  go_wp2_with (first | (refine at_alloc 23 rfl ?_; refine wl_alloc rfl 23 rfl _ zV HC.out ?_; intro b w' hn hc; (replace HC := hide hc; clear hc)) | (refine at_store 23 rfl ?_; refine wl_store rfl 23 _ _ rfl rfl rfl tyV.sz rfl HC.out (by repeat (first | exact List.Mem.head _ | apply List.Mem.tail)) (by exact PutS.all _ _ rfl) (by repeat (first | exact Upd.here _ _ _ | apply Upd.there)) ?_; intro w' hc; (replace HC := hide hc; clear hc)))
  refine ret_cell Try.results23 rfl rfl HC.out (by repeat (first | exact List.Mem.head _ | apply List.Mem.tail)) tyV rfl ?_
  exact ⟨rfl, HC.out.grown⟩
set_option maxHeartbeats 1600000 in
theorem lset_at (x : Int) (h0 : 0 ≤ x) (h1 : x < 4294967296) (w : World) : Calls Try.prog 24 #[.int .u32 x] w (Told w (.agg #[.int .i64 4, .int .i64 x, .string (bs [])])) := by
  have HC := hide (Cx.start w (fun _ => False))
  go_enter Try.func24, Try.ntmps24
  go_wp2_with (first | (refine at_alloc 23 rfl ?_; refine wl_alloc rfl 23 rfl _ zV HC.out ?_; intro b w' hn hc; (replace HC := hide hc; clear hc)) | (refine at_store 23 rfl ?_; refine wl_store rfl 23 _ _ rfl rfl rfl tyV.sz rfl HC.out (by repeat (first | exact List.Mem.head _ | apply List.Mem.tail)) (by exact PutS.all _ _ rfl) (by repeat (first | exact Upd.here _ _ _ | apply Upd.there)) ?_; intro w' hc; (replace HC := hide hc; clear hc)))
  refine ret_cell Try.results24 rfl rfl HC.out (by repeat (first | exact List.Mem.head _ | apply List.Mem.tail)) tyV rfl ?_
  exact ⟨rfl, HC.out.grown⟩
theorem two_as {s : List UInt8} {a b : Vl} (hs : s.length ≤ 100) (ha : a.t.length ≤ 100) (hb : b.t.length ≤ 100) {rf rn re : Int} {rt : List UInt8} (h : twoP s a b = (⟨rf, rn, rt⟩, re)) : ∀ W, Calls Try.prog 17 #[.string (bs s), .agg #[.int .i64 a.f, .int .i64 a.n, .string (bs a.t)], .agg #[.int .i64 b.f, .int .i64 b.n, .string (bs b.t)]] W (Told W (.tuple #[.agg #[.int .i64 rf, .int .i64 rn, .string (bs rt)], .int .i64 re])) := fun W => by
  have := two_at s (Nat.le_trans hs (by unfold maxLen; decide)) a b (by omega) (by omega) W
  rw [h] at this
  exact this
theorem cell1_of {w0 w : World} {A : Nat → Prop} {X : Option Nat} {L : List Lc} {Rs : List Rw} {Ts : List (List Dt × List Value)} {b : Nat} {u0 u1 u2 : Value} {t : TypeId} (H : Cx w0 A X L Rs Ts w) (hm : ⟨b, [u0, u1, u2], t⟩ ∈ L) : w.cell? ⟨b, 1, none⟩ = some u1 := cell_of_row _ _ _ _ _ _ (H.loc _ hm)
theorem load_of {W : World} {b : Nat} {u0 u1 u2 : Value} (h : W.heap[b]? = some (.cells [u0, u1, u2].toArray 23 (0, 0))) : (loadVar 23 ⟨b, 0, none⟩).run Try.prog W = .ok (.agg #[u0, u1, u2]) W := run_load_s tyV _ [u0, u1, u2] rfl (fun j u hu => by
  match j, hu with
  | 0, hu => simp at hu; subst hu; exact cell_of_row _ _ _ _ _ _ h
  | 1, hu => simp at hu; subst hu; exact cell_of_row _ _ _ _ _ _ h
  | 2, hu => simp at hu; subst hu; exact cell_of_row _ _ _ _ _ _ h
  | j + 3, hu => simp at hu)
theorem w1 : twoP [68, 73, 86] ⟨1, -7, []⟩ ⟨1, 2, []⟩ = (⟨1, -4, []⟩, 0) := by kernel_rfl
theorem w2 : twoP [68, 73, 86] ⟨1, 1, []⟩ ⟨1, 0, []⟩ = (⟨0, 0, []⟩, 121) := by kernel_rfl
theorem w3 : setP [(0, 3)] = (⟨4, 15, []⟩, 0) := by kernel_rfl
theorem w4 : twoP [42] ⟨4, 15, []⟩ ⟨4, 36, []⟩ = (⟨4, 4, []⟩, 0) := by kernel_rfl
theorem pset_as {l : List Pr} (hl : l.length ≤ 1000000) {rf rn re : Int} {rt : List UInt8} (h : setP l = (⟨rf, rn, rt⟩, re)) : ∀ (W : World) (o : Option Addr) (cp : Nat), Cls W o (l.flatMap prC) → Calls Try.prog 21 #[.slice o l.length cp] W (Told W (.tuple #[.agg #[.int .i64 rf, .int .i64 rn, .string (bs rt)], .int .i64 re])) := fun W o cp hc => by
  have := pset_at hl hc (cp := cp)
  rw [h] at this
  exact this
theorem cls_of {w0 w : World} {A : Nat → Prop} {X : Option Nat} {L : List Lc} {Rs : List Rw} {Ts : List (List Dt × List Value)} {b : Nat} {cs : List Value} {t : TypeId} (H : Cx w0 A X L Rs Ts w) (hm : ⟨b, cs, t⟩ ∈ L) : Cls w (some ⟨b, 0, none⟩) cs := fun j u hu => ⟨_, rfl, cells_at H hm (GetS.all cs) j u hu⟩
set_option maxHeartbeats 6400000 in
theorem wakes_at (w : World) : Calls Try.prog 11 #[] w (Told w (.bool true)) := by
  have HC := hide (Cx.start w (fun _ => False))
  have H1 := hide (two_as (by decide) (by decide) (by decide) w1)
  have H2 := hide (two_as (by decide) (by decide) (by decide) w2)
  have H3 := hide (pset_as (by decide) w3)
  have H4 := hide (two_as (by decide) (by decide) (by decide) w4)
  have M1 := True.intro
  have A1 := True.intro
  have A2 := True.intro
  dsimp only at H1 H2 H4
  go_enter Try.func11, Try.ntmps11
  go_wp2_with (first
    | (go_at_call 23; refine (num_at _ _).mono ?_; rintro e w2 ⟨rfl, hg⟩; (replace HC := hide (HC.out.g hg); clear hg))
    | (clear M1; go_at_call 17; (refine (H1.out _).mono ?_; rintro e w2 ⟨rfl, hg⟩; (replace HC := hide (HC.out.g hg); clear hg)))
    | (go_at_call 17; (refine (H2.out _).mono ?_; rintro e w2 ⟨rfl, hg⟩; (replace HC := hide (HC.out.g hg); clear hg)))
    | (clear A1; (refine at_alloc 23 rfl ?_; refine wl_alloc rfl 23 rfl _ zV HC.out ?_; intro b1 w' hn hc; (replace HC := hide hc; clear hc)))
    | (clear A2; (refine at_alloc 23 rfl ?_; refine wl_alloc rfl 23 rfl _ zV HC.out ?_; intro b3 w' hn hc; (replace HC := hide hc; clear hc)))
    | (refine at_alloc 23 rfl ?_; refine wl_alloc rfl 23 rfl _ zV HC.out ?_; intro b5 w' hn hc; (replace HC := hide hc; clear hc))
    | (refine at_store 23 rfl ?_; refine wl_store rfl 23 _ _ rfl rfl rfl tyV.sz rfl HC.out (by repeat (first | exact List.Mem.head _ | apply List.Mem.tail)) (by exact PutS.all _ _ rfl) (by repeat (first | exact Upd.here _ _ _ | apply Upd.there)) ?_; intro w' hc; (replace HC := hide hc; clear hc))
    | (refine at_bs 41 rfl ?_; refine wl_bl rfl 41 _ _ rfl 49 [.int .i64 0, .int .i64 3] HC.out (by kernel_rfl) ?_; intro b w' hn hc; (replace HC := hide hc; clear hc))
    | (go_at_call 21; refine (H3.out _ _ _ (cls_of HC.out (by repeat (first | exact List.Mem.head _ | apply List.Mem.tail)))).mono ?_; rintro e w2 ⟨rfl, hg⟩; (replace HC := hide (HC.out.g hg); clear hg)))
  replace HC := hide (HC.out.g (d1_g _))
  refine wp_region_inT (fun W => W.heap[b5]? = some (.cells ([.int .i64 4, .int .i64 15, .string (bs [])] : List Value).toArray 23 (0, 0))) 99 (.rd 0 (.fork 1 (.fork 2 (.rd 3 (.rd 4 (.rd 5 (.act 6 (.act 7 (.rd 8 .nil)))))) 6 (.act 2 (.rd 3 (.rd 4 (.rd 5 (.act 7 (.rd 8 .nil))))))) 6 (.act 1 (.act 2 (.rd 3 (.rd 4 (.rd 5 (.act 7 (.rd 8 .nil))))))))) (by kernel_rfl) (by kernel_rfl) (by kernel_rfl) (by kernel_rfl) (fun _ _ d _ _ h => by cases d <;> exact h) (HC.out.loc ⟨b5, [.int .i64 4, .int .i64 15, .string (bs [])], 23⟩ (by repeat (first | exact List.Mem.head _ | apply List.Mem.tail))) ?_
  refine inT_read rfl (yl_load rfl rfl rfl (fun W hW => load_of hW)) ?_
  (try simp only [Act.put, List.getElem_toArray, List.getElem_cons_zero, List.getElem_cons_succ, List.setIfInBounds_toArray, List.set_cons_zero, List.set_cons_succ])
  (refine inT_fork rfl rfl rfl rfl (fun K' hK => ?_) (fun K' hK => ?_))
  · (go_simp; refine (lset_at 36 (by decide) (by decide) _).mono ?_; rintro e w1 ⟨rfl, hg⟩; (replace HC := hide (HC.out.g hg); clear hg); (refine hK _ _ (.inr (HC.out.loc ⟨b5, [.int .i64 4, .int .i64 15, .string (bs [])], 23⟩ (by repeat (first | exact List.Mem.head _ | apply List.Mem.tail)))) ?_; clear hK K'; (try simp only [Act.put, List.getElem_toArray, List.getElem_cons_zero, List.getElem_cons_succ, List.setIfInBounds_toArray, List.set_cons_zero, List.set_cons_succ])))
    (refine inT_fork rfl rfl rfl rfl (fun K' hK => ?_) (fun K' hK => ?_))
    · (go_simp; refine (H4.out _).mono ?_; rintro e w1 ⟨rfl, hg⟩; (replace HC := hide (HC.out.g hg); clear hg); (refine hK _ _ (.inr (HC.out.loc ⟨b5, [.int .i64 4, .int .i64 15, .string (bs [])], 23⟩ (by repeat (first | exact List.Mem.head _ | apply List.Mem.tail)))) ?_; clear hK K'; (try simp only [Act.put, List.getElem_toArray, List.getElem_cons_zero, List.getElem_cons_succ, List.setIfInBounds_toArray, List.set_cons_zero, List.set_cons_succ])))
      (refine inT_read (v := ?_) rfl (Or.inl ⟨by rfl, ?_⟩) ?_; rotate_left 1; (focus (intro W hSW; clear hSW; go_simp; (try (with_reducible rfl)))); (try simp only [Act.put, List.getElem_toArray, List.getElem_cons_zero, List.getElem_cons_succ, List.setIfInBounds_toArray, List.set_cons_zero, List.set_cons_succ]))
      (refine inT_read (v := ?_) rfl (Or.inl ⟨by rfl, ?_⟩) ?_; rotate_left 1; (focus (intro W hSW; clear hSW; go_simp; (try (with_reducible rfl)))); (try simp only [Act.put, List.getElem_toArray, List.getElem_cons_zero, List.getElem_cons_succ, List.setIfInBounds_toArray, List.set_cons_zero, List.set_cons_succ]))
      (refine inT_read (v := ?_) rfl (Or.inl ⟨by rfl, ?_⟩) ?_; rotate_left 1; (focus (intro W hSW; clear hSW; go_simp; (try (with_reducible rfl)))); (try simp only [Act.put, List.getElem_toArray, List.getElem_cons_zero, List.getElem_cons_succ, List.setIfInBounds_toArray, List.set_cons_zero, List.set_cons_succ]))
      (refine inT_act rfl rfl (fun K' hK => ?_))
      (refine op_alloc 23 rfl zV HC.out ?_; intro b7 w' hn hg hc; (replace HC := hide hc; clear hc); (refine hK _ _ (.inr (HC.out.loc ⟨b5, [.int .i64 4, .int .i64 15, .string (bs [])], 23⟩ (by repeat (first | exact List.Mem.head _ | apply List.Mem.tail)))) ?_; clear hK K'; (try simp only [Act.put, List.getElem_toArray, List.getElem_cons_zero, List.getElem_cons_succ, List.setIfInBounds_toArray, List.set_cons_zero, List.set_cons_succ])))
      (refine inT_act rfl rfl (fun K' hK => ?_))
      (refine op_store_g _ _ _ rfl rfl rfl tyV.sz rfl HC.out (by repeat (first | exact List.Mem.head _ | apply List.Mem.tail)) (by exact PutS.all _ _ rfl) (by repeat (first | exact Upd.here _ _ _ | apply Upd.there)) ?_; intro w' hg hc; (replace HC := hide hc; clear hc); (refine hK _ _ (.inr (HC.out.loc ⟨b5, [.int .i64 4, .int .i64 15, .string (bs [])], 23⟩ (by repeat (first | exact List.Mem.head _ | apply List.Mem.tail)))) ?_; clear hK K'; (try simp only [Act.put, List.getElem_toArray, List.getElem_cons_zero, List.getElem_cons_succ, List.setIfInBounds_toArray, List.set_cons_zero, List.set_cons_succ])))
      (refine inT_read (v := ?_) rfl (Or.inl ⟨by rfl, ?_⟩) ?_; rotate_left 1; (focus (intro W hSW; clear hSW; go_simp; (try (with_reducible rfl)))); (try simp only [Act.put, List.getElem_toArray, List.getElem_cons_zero, List.getElem_cons_succ, List.setIfInBounds_toArray, List.set_cons_zero, List.set_cons_succ]))
      (refine inT_end ?_)
      (have c1 := cell1_of (b := b1) (u0 := .int .i64 1) (u1 := .int .i64 (-4)) (u2 := .string (bs [])) (t := 23) HC.out (by repeat (first | exact List.Mem.head _ | apply List.Mem.tail)); have c7 := cell1_of (b := b7) (u0 := .int .i64 4) (u1 := .int .i64 4) (u2 := .string (bs [])) (t := 23) HC.out (by repeat (first | exact List.Mem.head _ | apply List.Mem.tail)); go_wp2; go_ret; exact ⟨rfl, HC.out.grown⟩)
    · (refine op_alloc 23 rfl zV HC.out ?_; intro b7 w' hn hg hc; (replace HC := hide hc; clear hc); (refine hK _ _ (.inr (HC.out.loc ⟨b5, [.int .i64 4, .int .i64 15, .string (bs [])], 23⟩ (by repeat (first | exact List.Mem.head _ | apply List.Mem.tail)))) ?_; clear hK K'; (try simp only [Act.put, List.getElem_toArray, List.getElem_cons_zero, List.getElem_cons_succ, List.setIfInBounds_toArray, List.set_cons_zero, List.set_cons_succ])))
      (refine inT_act rfl rfl (fun K' hK => ?_))
      (go_simp; refine (H4.out _).mono ?_; rintro e w1 ⟨rfl, hg⟩; (replace HC := hide (HC.out.g hg); clear hg); (refine hK _ _ (.inr (HC.out.loc ⟨b5, [.int .i64 4, .int .i64 15, .string (bs [])], 23⟩ (by repeat (first | exact List.Mem.head _ | apply List.Mem.tail)))) ?_; clear hK K'; (try simp only [Act.put, List.getElem_toArray, List.getElem_cons_zero, List.getElem_cons_succ, List.setIfInBounds_toArray, List.set_cons_zero, List.set_cons_succ])))
      (refine inT_read (v := ?_) rfl (Or.inl ⟨by rfl, ?_⟩) ?_; rotate_left 1; (focus (intro W hSW; clear hSW; go_simp; (try (with_reducible rfl)))); (try simp only [Act.put, List.getElem_toArray, List.getElem_cons_zero, List.getElem_cons_succ, List.setIfInBounds_toArray, List.set_cons_zero, List.set_cons_succ]))
      (refine inT_read (v := ?_) rfl (Or.inl ⟨by rfl, ?_⟩) ?_; rotate_left 1; (focus (intro W hSW; clear hSW; go_simp; (try (with_reducible rfl)))); (try simp only [Act.put, List.getElem_toArray, List.getElem_cons_zero, List.getElem_cons_succ, List.setIfInBounds_toArray, List.set_cons_zero, List.set_cons_succ]))
      (refine inT_read (v := ?_) rfl (Or.inl ⟨by rfl, ?_⟩) ?_; rotate_left 1; (focus (intro W hSW; clear hSW; go_simp; (try (with_reducible rfl)))); (try simp only [Act.put, List.getElem_toArray, List.getElem_cons_zero, List.getElem_cons_succ, List.setIfInBounds_toArray, List.set_cons_zero, List.set_cons_succ]))
      (refine inT_act rfl rfl (fun K' hK => ?_))
      (refine op_store_g _ _ _ rfl rfl rfl tyV.sz rfl HC.out (by repeat (first | exact List.Mem.head _ | apply List.Mem.tail)) (by exact PutS.all _ _ rfl) (by repeat (first | exact Upd.here _ _ _ | apply Upd.there)) ?_; intro w' hg hc; (replace HC := hide hc; clear hc); (refine hK _ _ (.inr (HC.out.loc ⟨b5, [.int .i64 4, .int .i64 15, .string (bs [])], 23⟩ (by repeat (first | exact List.Mem.head _ | apply List.Mem.tail)))) ?_; clear hK K'; (try simp only [Act.put, List.getElem_toArray, List.getElem_cons_zero, List.getElem_cons_succ, List.setIfInBounds_toArray, List.set_cons_zero, List.set_cons_succ])))
      (refine inT_read (v := ?_) rfl (Or.inl ⟨by rfl, ?_⟩) ?_; rotate_left 1; (focus (intro W hSW; clear hSW; go_simp; (try (with_reducible rfl)))); (try simp only [Act.put, List.getElem_toArray, List.getElem_cons_zero, List.getElem_cons_succ, List.setIfInBounds_toArray, List.set_cons_zero, List.set_cons_succ]))
      (refine inT_end ?_)
      (have c1 := cell1_of (b := b1) (u0 := .int .i64 1) (u1 := .int .i64 (-4)) (u2 := .string (bs [])) (t := 23) HC.out (by repeat (first | exact List.Mem.head _ | apply List.Mem.tail)); have c7 := cell1_of (b := b7) (u0 := .int .i64 4) (u1 := .int .i64 4) (u2 := .string (bs [])) (t := 23) HC.out (by repeat (first | exact List.Mem.head _ | apply List.Mem.tail)); go_wp2; go_ret; exact ⟨rfl, HC.out.grown⟩)
  · (refine op_alloc 23 rfl zV HC.out ?_; intro b7 w' hn hg hc; (replace HC := hide hc; clear hc); (refine hK _ _ (.inr (HC.out.loc ⟨b5, [.int .i64 4, .int .i64 15, .string (bs [])], 23⟩ (by repeat (first | exact List.Mem.head _ | apply List.Mem.tail)))) ?_; clear hK K'; (try simp only [Act.put, List.getElem_toArray, List.getElem_cons_zero, List.getElem_cons_succ, List.setIfInBounds_toArray, List.set_cons_zero, List.set_cons_succ])))
    (refine inT_act rfl rfl (fun K' hK => ?_))
    (go_simp; refine (lset_at 36 (by decide) (by decide) _).mono ?_; rintro e w1 ⟨rfl, hg⟩; (replace HC := hide (HC.out.g hg); clear hg); (refine hK _ _ (.inr (HC.out.loc ⟨b5, [.int .i64 4, .int .i64 15, .string (bs [])], 23⟩ (by repeat (first | exact List.Mem.head _ | apply List.Mem.tail)))) ?_; clear hK K'; (try simp only [Act.put, List.getElem_toArray, List.getElem_cons_zero, List.getElem_cons_succ, List.setIfInBounds_toArray, List.set_cons_zero, List.set_cons_succ])))
    (refine inT_act rfl rfl (fun K' hK => ?_))
    (go_simp; refine (H4.out _).mono ?_; rintro e w1 ⟨rfl, hg⟩; (replace HC := hide (HC.out.g hg); clear hg); (refine hK _ _ (.inr (HC.out.loc ⟨b5, [.int .i64 4, .int .i64 15, .string (bs [])], 23⟩ (by repeat (first | exact List.Mem.head _ | apply List.Mem.tail)))) ?_; clear hK K'; (try simp only [Act.put, List.getElem_toArray, List.getElem_cons_zero, List.getElem_cons_succ, List.setIfInBounds_toArray, List.set_cons_zero, List.set_cons_succ])))
    (refine inT_read (v := ?_) rfl (Or.inl ⟨by rfl, ?_⟩) ?_; rotate_left 1; (focus (intro W hSW; clear hSW; go_simp; (try (with_reducible rfl)))); (try simp only [Act.put, List.getElem_toArray, List.getElem_cons_zero, List.getElem_cons_succ, List.setIfInBounds_toArray, List.set_cons_zero, List.set_cons_succ]))
    (refine inT_read (v := ?_) rfl (Or.inl ⟨by rfl, ?_⟩) ?_; rotate_left 1; (focus (intro W hSW; clear hSW; go_simp; (try (with_reducible rfl)))); (try simp only [Act.put, List.getElem_toArray, List.getElem_cons_zero, List.getElem_cons_succ, List.setIfInBounds_toArray, List.set_cons_zero, List.set_cons_succ]))
    (refine inT_read (v := ?_) rfl (Or.inl ⟨by rfl, ?_⟩) ?_; rotate_left 1; (focus (intro W hSW; clear hSW; go_simp; (try (with_reducible rfl)))); (try simp only [Act.put, List.getElem_toArray, List.getElem_cons_zero, List.getElem_cons_succ, List.setIfInBounds_toArray, List.set_cons_zero, List.set_cons_succ]))
    (refine inT_act rfl rfl (fun K' hK => ?_))
    (refine op_store_g _ _ _ rfl rfl rfl tyV.sz rfl HC.out (by repeat (first | exact List.Mem.head _ | apply List.Mem.tail)) (by exact PutS.all _ _ rfl) (by repeat (first | exact Upd.here _ _ _ | apply Upd.there)) ?_; intro w' hg hc; (replace HC := hide hc; clear hc); (refine hK _ _ (.inr (HC.out.loc ⟨b5, [.int .i64 4, .int .i64 15, .string (bs [])], 23⟩ (by repeat (first | exact List.Mem.head _ | apply List.Mem.tail)))) ?_; clear hK K'; (try simp only [Act.put, List.getElem_toArray, List.getElem_cons_zero, List.getElem_cons_succ, List.setIfInBounds_toArray, List.set_cons_zero, List.set_cons_succ])))
    (refine inT_read (v := ?_) rfl (Or.inl ⟨by rfl, ?_⟩) ?_; rotate_left 1; (focus (intro W hSW; clear hSW; go_simp; (try (with_reducible rfl)))); (try simp only [Act.put, List.getElem_toArray, List.getElem_cons_zero, List.getElem_cons_succ, List.setIfInBounds_toArray, List.set_cons_zero, List.set_cons_succ]))
    (refine inT_end ?_)
    (have c1 := cell1_of (b := b1) (u0 := .int .i64 1) (u1 := .int .i64 (-4)) (u2 := .string (bs [])) (t := 23) HC.out (by repeat (first | exact List.Mem.head _ | apply List.Mem.tail)); have c7 := cell1_of (b := b7) (u0 := .int .i64 4) (u1 := .int .i64 4) (u2 := .string (bs [])) (t := 23) HC.out (by repeat (first | exact List.Mem.head _ | apply List.Mem.tail)); go_wp2; go_ret; exact ⟨rfl, HC.out.grown⟩)
end Go.Proofs.Ytgdpcdpkaaefbaa.Cn
