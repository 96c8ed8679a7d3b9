/-
  Package scope: Declare.
-/
import Derived.Test.YtmoekalagollhaaSc4
namespace Go.Proofs.Ytmoekalagollhaa.So
open Go.RowKit hiding Hid
open Go.Proofs.Ytmoekalagollhaa.Tx Go.Proofs.Ytmoekalagollhaa.Lx Go.Proofs.Ytmoekalagollhaa.Tr Go.Proofs.Ytmoekalagollhaa.Ty
set_option linter.unusedVariables false
set_option linter.unusedSimpArgs false
set_option maxRecDepth 100000

theorem tyKEY : TyS Try.prog 79 2 := tyS_of Try.underlying79 rfl (by kernel_rfl)
theorem zKEY : (Try.prog.info? 79).bind (fun i => i.zero.map (·.cells)) = some ([.int .i64 0, .string ⟨#[]⟩] : List Value).toArray := by kernel_rfl
theorem yl_look {P : Program} {ops : Array Oper} {S : World → Prop} {o : Oper} {a : Act} {T : TypeId} {x y : Operand} {m k r : Value} (ho : o.op = .lookup T x y true) (hx : a.eval x = m) (hy : a.eval y = k) (hw : Region.wanted o (yielded ops a.tmps) = true) (hr : ∀ W, S W → (Instr.lookup T m k true).run P W = .ok r W) : YieldsIf P ops S o r a := by
  refine .inl ⟨hw, fun W hS => ?_⟩
  unfold execOp
  simp [ho, hx, hy, hr W hS]
theorem cf_cell {w0 w : World} {A : Nat → Prop} {X : Option Nat} {L : List Lc} {Rs : List Rw} {Fs : List Fk} (H : Cf w0 A X L Rs Fs w) {b : Nat} {cs : List Value} {t : TypeId} (hm : ⟨b, cs, t⟩ ∈ L) {off : Nat} {u : Value} (hg : GetS off [u] cs) : w.cell? ⟨b, off, none⟩ = some u := by
  have := cells_at H.cx hm hg 0 u rfl
  rw [Addr.add_zero'] at this
  exact this
theorem own_slice {w : World} {B : Nat} {e : TypeId} {k n : Nat} {v : Value} {xs : List Value} (h : w.ownsRow B e k v n xs) : ∃ d c, v = .slice d n c := by
  rcases h.2 with ⟨e1, e2⟩ | ⟨g, cap, cur, e1, _⟩
  · exact ⟨none, 0, by rw [e1, e2]⟩
  · exact ⟨_, _, e1⟩
theorem FM.look_yes {W : World} {mb : Nat} {M : Sx} (h : FM W mb (ents M)) (hG : Gd M) {k : Nat} {s : Nm} (hk : k ≤ 64) (hs : s.length ≤ 5000) {v : Int} (hf : fnd (lev M k) s = some v) : (Instr.lookup 71 (.map (some mb)) (keyV (k, s)) true).run Try.prog W = .ok (.tuple #[.int .i64 v, .bool true]) W := by
  have hm := (fnd_some (lev_gd hG k).nd).1 hf
  rcases h.look (n := (k, s)) ⟨by simp only; omega, by simp only; unfold maxLen; omega⟩ with ⟨h1, _⟩ | ⟨t, h1, h2⟩
  · exact absurd rfl (h1 _ (mem_ents.2 hm))
  · have h3 := (fnd_some (lev_gd hG k).nd).2 (mem_ents.1 h1)
    rw [hf] at h3
    cases h3
    exact h2
theorem FM.look_no {W : World} {mb : Nat} {M : Sx} (h : FM W mb (ents M)) {k : Nat} {s : Nm} (hk : k ≤ 64) (hs : s.length ≤ 5000) (hf : fnd (lev M k) s = none) : (Instr.lookup 71 (.map (some mb)) (keyV (k, s)) true).run Try.prog W = .ok (.tuple #[.int .i64 0, .bool false]) W := by
  rcases h.look (n := (k, s)) ⟨by simp only; omega, by simp only; unfold maxLen; omega⟩ with ⟨_, h2⟩ | ⟨t, h1, h2⟩
  · exact h2
  · exact absurd rfl (fnd_none.1 hf _ (mem_ents.1 h1))
theorem set_last (xs : List Value) (v v' : Value) : (v :: xs).reverse.take xs.length ++ [v'] ++ (v :: xs).reverse.drop (xs.length + 1) = (v' :: xs).reverse := by
  rw [List.reverse_cons, List.reverse_cons, List.take_append_of_le_length (by simp), List.take_of_length_le (by simp), List.drop_of_length_le (by simp), List.append_nil]
set_option maxHeartbeats 2000000 in
theorem declare_nil (w : World) (s n : Value) : Calls Try.prog 31 #[.pointer none, s, n] w (fun e w' => e = .returned (.int .i64 1) ∧ w' = w) := by
  go_enter Try.func31, Try.ntmps31
  go_wp2
  go_ret
  exact ⟨rfl, rfl⟩
set_option maxHeartbeats 16000000 in
theorem declare_at {w0 w : World} {b mb : Nat} {l : Lv1} {r : Sx} {L : List Lc} {Rs : List Rw} {Fs : List Fk} (H : PS w0 b mb (l :: r) L Rs Fs w) (hG : Gd (l :: r)) (hM : r.length < 64) (s : Nm) (hs : s.length ≤ 5000) (n : Int) : Calls Try.prog 31 #[.pointer (some ⟨b, 0, none⟩), .string (bs s), .int .i64 n] w (fun e w' => e = .returned (.int .i64 (decE l s)) ∧ PS w0 b mb (decL l s n :: r) L Rs Fs w') := by
  cases hw : wordB s
  · have he : decE l s = 150 := by unfold decE; rw [if_pos hw]
    have hl : decL l s n = l := by unfold decL; rw [he]; rfl
    rw [he, hl]
    have HW := hide hw
    have HP := hide H
    clear H hG hM he hl hw
    go_enter Try.func31, Try.ntmps31
    go_wp2_with (go_at_call 58; refine (isName_any s _ (by omega)).mono ?_; rw [HW.out]; rintro e w' ⟨rfl, hw⟩; replace hw := hw.symm; subst hw)
    go_ret
    exact ⟨rfl, HP.out⟩
  have HW := hide hw
  obtain ⟨d, c, VM, hVM, H⟩ := H
  match VM, hVM, H with
  | [], hVM, H => cases hVM
  | (v, l') :: VR, hVM, H =>
  injection hVM with hl' hr'
  simp only at hl'
  have hl' := hl'.symm
  subst hl'
  subst hr'
  obtain ⟨d1, c1, hv⟩ := own_slice (H.cx.row (rowP (v, l)) (.tail _ (.head _)))
  have hv : v = .slice d1 l.length c1 := hv
  subst hv
  rw [List.length_map] at hM
  obtain ⟨m, hm⟩ : ∃ m, VR.length = m := ⟨_, rfl⟩
  obtain ⟨N, hN⟩ : ∃ N, ((Value.slice d1 l.length c1, l) :: VR).length = N := ⟨_, rfl⟩
  have hNm : N = m + 1 := by rw [← hN, ← hm]; rfl
  unfold PC at H
  rw [hN] at H
  obtain ⟨g, rfl, hc1, hc2⟩ := own_at (H.cx.row _ (.head _)) (by omega)
  have HXm := hide (show (((Value.slice d1 l.length c1, l) :: VR).map Prod.fst).reverse[m]? = some (.slice d1 l.length c1) from by rw [List.map_cons, List.reverse_cons, List.getElem?_append_right (by simp; omega)]; simp [hm])
  have HXl := hide (show m + 1 ≤ ((((Value.slice d1 l.length c1, l) :: VR).map Prod.fst).reverse).length from by simp; omega)
  have HE := hide (show lev (l :: VR.map Prod.snd) m = l from by rw [← hm, ← List.length_map (f := Prod.snd)]; exact lev_top _ _)
  have HPS := hide (fun W (h : Cf w0 (fun _ => False) none (⟨b, [.map (some mb), .slice (some ⟨g, 0, none⟩) N c], 74⟩ :: L) (⟨.slice (some ⟨g, 0, none⟩) N c, 54, 1, N, (((Value.slice d1 l.length c1, l) :: VR).map Prod.fst).reverse⟩ :: (((Value.slice d1 l.length c1, l) :: VR).map rowP ++ Rs)) (⟨mb, fun W => FM W mb (ents (((Value.slice d1 l.length c1, l) :: VR).map Prod.snd))⟩ :: Fs) W) => show PS w0 b mb (l :: VR.map Prod.snd) L Rs Fs W from ⟨some ⟨g, 0, none⟩, c, (Value.slice d1 l.length c1, l) :: VR, rfl, by unfold PC; rw [hN]; exact h⟩)
  have HM := hide (show (l :: VR.map Prod.snd).length ≤ 64 by simp; omega)
  have HDm := hide (show (((l :: VR.map Prod.snd).length : Nat) : Int) - 1 = (m : Int) by simp; omega)
  have HGd := hide hG
  have HNm := hide hNm
  have Hm := hide hm
  have HL2 := (gd_cons.1 hG).1.le
  have HL9 := hide (show l.length ≤ 900000 by omega)
  have m0 : (m : Int) < N := by omega
  have m1 : (N : Int) ≤ 64 := by omega
  have m2 : (c : Int) ≤ 9223372036854775807 := by unfold maxLen at hc2; omega
  have hl2 : (l.length : Int) ≤ 256 := by omega
  have hm64 : m ≤ 64 := by omega
  have HC := hide H
  obtain ⟨E, hE⟩ : ∃ E, ents (((Value.slice d1 l.length c1, l) :: VR).map Prod.snd) = E := ⟨_, rfl⟩
  have HEe := hide hE
  rw [hE] at HC HPS
  cases hf : fnd l s with
  | some v0 =>
    have he : decE l s = 151 := by unfold decE; rw [if_neg (by rw [hw]; simp), if_pos (by rw [hf]; simp)]
    have hl : decL l s n = l := by unfold decL; rw [he]; rfl
    rw [he, hl]
    have HLK := hide (fun W (h : FM W mb E) => by rw [← hE] at h; exact (show (Instr.lookup 71 (.map (some mb)) (keyV (m, s)) true).run Try.prog W = .ok (.tuple #[.int .i64 v0, .bool true]) W from FM.look_yes (M := l :: VR.map Prod.snd) h hG hm64 hs (by rw [HE.out]; exact hf)))
    clear H hG hM he hl hw hE hN hm hNm hc1 hc2 hf hm64 HL2
    go_enter Try.func31, Try.ntmps31
    go_upto_region 7 with (first | (go_at_call 58; refine (isName_any s _ (by omega)).mono ?_; rw [HW.out]; rintro e w' ⟨rfl, hw⟩; replace hw := hw.symm; subst hw) | (go_at_call 36; refine (depth_at (HPS.out _ HC.out) HM.out).mono ?_; rw [HDm.out]; rintro e w' ⟨rfl, hw⟩; replace hw := hw.symm; subst hw) | (refine at_alloc 79 rfl ?_; refine cf_alloc rfl 79 rfl _ zKEY HC.out ?_; intro kb w' hn hc; (replace HC := hide hc; clear hc)) | (refine at_store 79 rfl ?_; refine cf_store rfl 79 _ _ rfl rfl rfl tyKEY.sz rfl HC.out (by repeat (first | exact List.Mem.head _ | apply List.Mem.tail)) (by exact PutS.all _ _ rfl) (by repeat (first | exact Upd.here _ _ _ | apply Upd.there)) ?_; intro w' hc; (replace HC := hide hc; clear hc)))
    replace HC := hide (HC.out.g (d1_g _)); refine wp_region_inN (fun W => W.cell? ⟨b, 0, none⟩ = some (.map (some mb)) ∧ (∀ j u, ([.int .i64 (m : Int), .string (bs s)] : List Value)[j]? = some u → W.cell? ((⟨kb, 0, none⟩ : Addr).add j) = some u) ∧ FM W mb E) [10] (Pn.of [(1, 0), (1, 1), (1, 2), (1, 3), (1, 4), (1, 5), (1, 6), (1, 7), (1, 8), (1, 9), (0, 10)] .nil) (by kernel_rfl) (by kernel_rfl) (by kernel_rfl) (by kernel_rfl) (fun _ _ d _ _ h => by cases d <;> exact h) ⟨cf_cell HC.out (by repeat (first | exact List.Mem.head _ | apply List.Mem.tail)) (by repeat (first | exact GetS.cons _ (GetS.nil _) | apply GetS.skip)), cells_at HC.out.cx (by repeat (first | exact List.Mem.head _ | apply List.Mem.tail)) (GetS.all _), HC.out.fs _ (.head _)⟩ ?_
    (refine inN_read (v := ?_) rfl (Or.inl ⟨by rfl, ?_⟩) ?_; rotate_left 1; (focus (intro W hSW; clear hSW; go_simp; (try (with_reducible rfl)))); (try simp only [Act.put, List.getElem_toArray, List.getElem_cons_zero, List.getElem_cons_succ, List.setIfInBounds_toArray, List.set_cons_zero, List.set_cons_succ]))
    (refine inN_read (v := ?_) rfl (Or.inl ⟨by rfl, ?_⟩) ?_; rotate_left 1; (focus (intro W hSW; clear hSW; go_simp; (try (with_reducible rfl)))); (try simp only [Act.put, List.getElem_toArray, List.getElem_cons_zero, List.getElem_cons_succ, List.setIfInBounds_toArray, List.set_cons_zero, List.set_cons_succ]))
    (refine inN_read (v := ?_) rfl (Or.inl ⟨by rfl, ?_⟩) ?_; rotate_left 1; (focus (intro W hSW; clear hSW; go_simp; (try (with_reducible rfl)))); (try simp only [Act.put, List.getElem_toArray, List.getElem_cons_zero, List.getElem_cons_succ, List.setIfInBounds_toArray, List.set_cons_zero, List.set_cons_succ]))
    (refine inN_read rfl (yl_cell tcMAP rfl rfl rfl (fun W hS => hS.1)) ?_; (try simp only [Act.put, List.getElem_toArray, List.getElem_cons_zero, List.getElem_cons_succ, List.setIfInBounds_toArray, List.set_cons_zero, List.set_cons_succ]))
    (refine inN_read rfl (yl_load rfl rfl rfl (fun W hS => run_load_s tyKEY _ [.int .i64 (m : Int), .string (bs s)] rfl hS.2.1)) ?_; (try simp only [Act.put, List.getElem_toArray, List.getElem_cons_zero, List.getElem_cons_succ, List.setIfInBounds_toArray, List.set_cons_zero, List.set_cons_succ]))
    (refine inN_read rfl (yl_look (m := .map (some mb)) (k := keyV (m, s)) rfl rfl rfl rfl (fun W hS => HLK.out W hS.2.2)) ?_; (try simp only [Act.put, List.getElem_toArray, List.getElem_cons_zero, List.getElem_cons_succ, List.setIfInBounds_toArray, List.set_cons_zero, List.set_cons_succ]))
    (refine inN_read (v := ?_) rfl (Or.inl ⟨by rfl, ?_⟩) ?_; rotate_left 1; (focus (intro W hSW; clear hSW; go_simp; (try (with_reducible rfl)))); (try simp only [Act.put, List.getElem_toArray, List.getElem_cons_zero, List.getElem_cons_succ, List.setIfInBounds_toArray, List.set_cons_zero, List.set_cons_succ]))
    (refine inN_read (v := ?_) rfl (Or.inl ⟨by rfl, ?_⟩) ?_; rotate_left 1; (focus (intro W hSW; clear hSW; go_simp; (try (with_reducible rfl)))); (try simp only [Act.put, List.getElem_toArray, List.getElem_cons_zero, List.getElem_cons_succ, List.setIfInBounds_toArray, List.set_cons_zero, List.set_cons_succ]))
    (refine inN_read (v := ?_) rfl (Or.inl ⟨by rfl, ?_⟩) ?_; rotate_left 1; (focus (intro W hSW; clear hSW; go_simp; (try (with_reducible rfl)))); (try simp only [Act.put, List.getElem_toArray, List.getElem_cons_zero, List.getElem_cons_succ, List.setIfInBounds_toArray, List.set_cons_zero, List.set_cons_succ]))
    (refine inN_read (v := ?_) rfl (Or.inl ⟨by rfl, ?_⟩) ?_; rotate_left 1; (focus (intro W hSW; clear hSW; go_simp; (try (with_reducible rfl)))); (try simp only [Act.put, List.getElem_toArray, List.getElem_cons_zero, List.getElem_cons_succ, List.setIfInBounds_toArray, List.set_cons_zero, List.set_cons_succ]))
    (refine inN_pure (v := ?_) rfl (Or.inl ⟨by rfl, ?_⟩) ?_; rotate_left 1; (focus (intro W hSW; clear hSW; go_simp; (try (with_reducible rfl)))); (try simp only [Act.put, List.getElem_toArray, List.getElem_cons_zero, List.getElem_cons_succ, List.setIfInBounds_toArray, List.set_cons_zero, List.set_cons_succ]))
    refine inN_end ?_
    go_wp2
    go_ret
    exact ⟨rfl, HPS.out _ HC.out.drop⟩
  | none =>
    have HFn := hide hf
    have HLK := hide (fun W (h : FM W mb E) => by rw [← hE] at h; exact (show (Instr.lookup 71 (.map (some mb)) (keyV (m, s)) true).run Try.prog W = .ok (.tuple #[.int .i64 0, .bool false]) W from FM.look_no (M := l :: VR.map Prod.snd) h hm64 hs (by rw [HE.out]; exact hf)))
    by_cases h256 : l.length = 256
    · have he : decE l s = 3 := by unfold decE; rw [if_neg (by rw [hw]; simp), if_neg (by rw [hf]; simp), if_pos h256]
      have hl : decL l s n = l := by unfold decL; rw [he]; rfl
      rw [he, hl]
      have k9 : (256 : Int) ≤ l.length := by omega
      clear H hG hM he hl hw hE hN hm hNm hc1 hc2 hf hm64 HL2 h256
      go_enter Try.func31, Try.ntmps31
      go_upto_region 7 with (first | (go_at_call 58; refine (isName_any s _ (by omega)).mono ?_; rw [HW.out]; rintro e w' ⟨rfl, hw⟩; replace hw := hw.symm; subst hw) | (go_at_call 36; refine (depth_at (HPS.out _ HC.out) HM.out).mono ?_; rw [HDm.out]; rintro e w' ⟨rfl, hw⟩; replace hw := hw.symm; subst hw) | (refine at_alloc 79 rfl ?_; refine cf_alloc rfl 79 rfl _ zKEY HC.out ?_; intro kb w' hn hc; (replace HC := hide hc; clear hc)) | (refine at_store 79 rfl ?_; refine cf_store rfl 79 _ _ rfl rfl rfl tyKEY.sz rfl HC.out (by repeat (first | exact List.Mem.head _ | apply List.Mem.tail)) (by exact PutS.all _ _ rfl) (by repeat (first | exact Upd.here _ _ _ | apply Upd.there)) ?_; intro w' hc; (replace HC := hide hc; clear hc)))
      replace HC := hide (HC.out.g (d1_g _)); refine wp_region_inN (fun W => W.cell? ⟨b, 0, none⟩ = some (.map (some mb)) ∧ (∀ j u, ([.int .i64 (m : Int), .string (bs s)] : List Value)[j]? = some u → W.cell? ((⟨kb, 0, none⟩ : Addr).add j) = some u) ∧ FM W mb E) [10] (Pn.of [(1, 0), (1, 1), (1, 2), (1, 3), (1, 4), (1, 5), (1, 6), (1, 7), (1, 8), (1, 9), (0, 10)] .nil) (by kernel_rfl) (by kernel_rfl) (by kernel_rfl) (by kernel_rfl) (fun _ _ d _ _ h => by cases d <;> exact h) ⟨cf_cell HC.out (by repeat (first | exact List.Mem.head _ | apply List.Mem.tail)) (by repeat (first | exact GetS.cons _ (GetS.nil _) | apply GetS.skip)), cells_at HC.out.cx (by repeat (first | exact List.Mem.head _ | apply List.Mem.tail)) (GetS.all _), HC.out.fs _ (.head _)⟩ ?_
      (refine inN_read (v := ?_) rfl (Or.inl ⟨by rfl, ?_⟩) ?_; rotate_left 1; (focus (intro W hSW; clear hSW; go_simp; (try (with_reducible rfl)))); (try simp only [Act.put, List.getElem_toArray, List.getElem_cons_zero, List.getElem_cons_succ, List.setIfInBounds_toArray, List.set_cons_zero, List.set_cons_succ]))
      (refine inN_read (v := ?_) rfl (Or.inl ⟨by rfl, ?_⟩) ?_; rotate_left 1; (focus (intro W hSW; clear hSW; go_simp; (try (with_reducible rfl)))); (try simp only [Act.put, List.getElem_toArray, List.getElem_cons_zero, List.getElem_cons_succ, List.setIfInBounds_toArray, List.set_cons_zero, List.set_cons_succ]))
      (refine inN_read (v := ?_) rfl (Or.inl ⟨by rfl, ?_⟩) ?_; rotate_left 1; (focus (intro W hSW; clear hSW; go_simp; (try (with_reducible rfl)))); (try simp only [Act.put, List.getElem_toArray, List.getElem_cons_zero, List.getElem_cons_succ, List.setIfInBounds_toArray, List.set_cons_zero, List.set_cons_succ]))
      (refine inN_read rfl (yl_cell tcMAP rfl rfl rfl (fun W hS => hS.1)) ?_; (try simp only [Act.put, List.getElem_toArray, List.getElem_cons_zero, List.getElem_cons_succ, List.setIfInBounds_toArray, List.set_cons_zero, List.set_cons_succ]))
      (refine inN_read rfl (yl_load rfl rfl rfl (fun W hS => run_load_s tyKEY _ [.int .i64 (m : Int), .string (bs s)] rfl hS.2.1)) ?_; (try simp only [Act.put, List.getElem_toArray, List.getElem_cons_zero, List.getElem_cons_succ, List.setIfInBounds_toArray, List.set_cons_zero, List.set_cons_succ]))
      (refine inN_read rfl (yl_look (m := .map (some mb)) (k := keyV (m, s)) rfl rfl rfl rfl (fun W hS => HLK.out W hS.2.2)) ?_; (try simp only [Act.put, List.getElem_toArray, List.getElem_cons_zero, List.getElem_cons_succ, List.setIfInBounds_toArray, List.set_cons_zero, List.set_cons_succ]))
      (refine inN_read (v := ?_) rfl (Or.inl ⟨by rfl, ?_⟩) ?_; rotate_left 1; (focus (intro W hSW; clear hSW; go_simp; (try (with_reducible rfl)))); (try simp only [Act.put, List.getElem_toArray, List.getElem_cons_zero, List.getElem_cons_succ, List.setIfInBounds_toArray, List.set_cons_zero, List.set_cons_succ]))
      (refine inN_read (v := ?_) rfl (Or.inl ⟨by rfl, ?_⟩) ?_; rotate_left 1; (focus (intro W hSW; clear hSW; go_simp; (try (with_reducible rfl)))); (try simp only [Act.put, List.getElem_toArray, List.getElem_cons_zero, List.getElem_cons_succ, List.setIfInBounds_toArray, List.set_cons_zero, List.set_cons_succ]))
      (refine inN_read (v := ?_) rfl (Or.inl ⟨by rfl, ?_⟩) ?_; rotate_left 1; (focus (intro W hSW; clear hSW; go_simp; (try (with_reducible rfl)))); (try simp only [Act.put, List.getElem_toArray, List.getElem_cons_zero, List.getElem_cons_succ, List.setIfInBounds_toArray, List.set_cons_zero, List.set_cons_succ]))
      (refine inN_read (v := ?_) rfl (Or.inl ⟨by rfl, ?_⟩) ?_; rotate_left 1; (focus (intro W hSW; clear hSW; go_simp; (try (with_reducible rfl)))); (try simp only [Act.put, List.getElem_toArray, List.getElem_cons_zero, List.getElem_cons_succ, List.setIfInBounds_toArray, List.set_cons_zero, List.set_cons_succ]))
      (refine inN_pure (v := ?_) rfl (Or.inl ⟨by rfl, ?_⟩) ?_; rotate_left 1; (focus (intro W hSW; clear hSW; go_simp; (try (with_reducible rfl)))); (try simp only [Act.put, List.getElem_toArray, List.getElem_cons_zero, List.getElem_cons_succ, List.setIfInBounds_toArray, List.set_cons_zero, List.set_cons_succ]))
      refine inN_end ?_
      go_wp2_with (first | (refine at_load 72 rfl ?_; refine wl_load_c rfl 72 _ rfl tcTSS rfl HC.out.cx (by repeat (first | exact List.Mem.head _ | apply List.Mem.tail)) (by repeat (first | exact GetS.cons _ (GetS.nil _) | apply GetS.skip)) ?_) | (refine at_load 54 rfl ?_; refine wl_cell rfl 54 _ rfl tcTS rfl (HC.out.cell (ad := ⟨g, 0, none⟩) (by repeat (first | exact List.Mem.head _ | apply List.Mem.tail)) HXm.out) ?_))
      go_ret
      exact ⟨rfl, HPS.out _ HC.out.drop⟩
    · have he : decE l s = 0 := by unfold decE; rw [if_neg (by rw [hw]; simp), if_neg (by rw [hf]; simp), if_neg h256]
      have hl : decL l s n = l ++ [(s, n)] := by unfold decL; rw [he]; rfl
      rw [he, hl]
      have k9 : ¬ (256 : Int) ≤ l.length := by omega
      have HPT := hide (fun W (h : FM W mb E) => by
        have h1 := h.put (by rw [← hE]; have := ents_len (l :: VR.map Prod.snd) hG; simp only [List.length_cons, List.length_map] at this; simp only [List.map_cons]; unfold maxLen; omega) (n := (m, s)) ⟨by simp only; omega, by simp only; unfold maxLen; omega⟩ n
        obtain ⟨w1, q1, q2, q3⟩ := h1
        refine (show ∃ w', (Instr.mapUpdate 71 (.map (some mb)) (keyV (m, s)) (.int .i64 n)).run Try.prog W = .ok () w' ∧ FM w' mb (ents ((l ++ [(s, n)]) :: VR.map Prod.snd)) ∧ W.grownBy w' (some mb) from ⟨w1, q1, ?_, q3⟩)
        refine q2.perm ?_
        rw [← hE, ← hm, ← List.length_map (f := Prod.snd)]
        exact ents_put n hf)
      clear H hG hM he hl hw hE hN hm hNm hc1 hc2 hf hm64 HL2 h256
      go_enter Try.func31, Try.ntmps31
      go_upto_region 7 with (first | (go_at_call 58; refine (isName_any s _ (by omega)).mono ?_; rw [HW.out]; rintro e w' ⟨rfl, hw⟩; replace hw := hw.symm; subst hw) | (go_at_call 36; refine (depth_at (HPS.out _ HC.out) HM.out).mono ?_; rw [HDm.out]; rintro e w' ⟨rfl, hw⟩; replace hw := hw.symm; subst hw) | (refine at_alloc 79 rfl ?_; refine cf_alloc rfl 79 rfl _ zKEY HC.out ?_; intro kb w' hn hc; (replace HC := hide hc; clear hc)) | (refine at_store 79 rfl ?_; refine cf_store rfl 79 _ _ rfl rfl rfl tyKEY.sz rfl HC.out (by repeat (first | exact List.Mem.head _ | apply List.Mem.tail)) (by exact PutS.all _ _ rfl) (by repeat (first | exact Upd.here _ _ _ | apply Upd.there)) ?_; intro w' hc; (replace HC := hide hc; clear hc)))
      replace HC := hide (HC.out.g (d1_g _)); refine wp_region_inN (fun W => W.cell? ⟨b, 0, none⟩ = some (.map (some mb)) ∧ (∀ j u, ([.int .i64 (m : Int), .string (bs s)] : List Value)[j]? = some u → W.cell? ((⟨kb, 0, none⟩ : Addr).add j) = some u) ∧ FM W mb E) [10] (Pn.of [(1, 0), (1, 1), (1, 2), (1, 3), (1, 4), (1, 5), (1, 6), (1, 7), (1, 8), (1, 9), (0, 10)] .nil) (by kernel_rfl) (by kernel_rfl) (by kernel_rfl) (by kernel_rfl) (fun _ _ d _ _ h => by cases d <;> exact h) ⟨cf_cell HC.out (by repeat (first | exact List.Mem.head _ | apply List.Mem.tail)) (by repeat (first | exact GetS.cons _ (GetS.nil _) | apply GetS.skip)), cells_at HC.out.cx (by repeat (first | exact List.Mem.head _ | apply List.Mem.tail)) (GetS.all _), HC.out.fs _ (.head _)⟩ ?_
      (refine inN_read (v := ?_) rfl (Or.inl ⟨by rfl, ?_⟩) ?_; rotate_left 1; (focus (intro W hSW; clear hSW; go_simp; (try (with_reducible rfl)))); (try simp only [Act.put, List.getElem_toArray, List.getElem_cons_zero, List.getElem_cons_succ, List.setIfInBounds_toArray, List.set_cons_zero, List.set_cons_succ]))
      (refine inN_read (v := ?_) rfl (Or.inl ⟨by rfl, ?_⟩) ?_; rotate_left 1; (focus (intro W hSW; clear hSW; go_simp; (try (with_reducible rfl)))); (try simp only [Act.put, List.getElem_toArray, List.getElem_cons_zero, List.getElem_cons_succ, List.setIfInBounds_toArray, List.set_cons_zero, List.set_cons_succ]))
      (refine inN_read (v := ?_) rfl (Or.inl ⟨by rfl, ?_⟩) ?_; rotate_left 1; (focus (intro W hSW; clear hSW; go_simp; (try (with_reducible rfl)))); (try simp only [Act.put, List.getElem_toArray, List.getElem_cons_zero, List.getElem_cons_succ, List.setIfInBounds_toArray, List.set_cons_zero, List.set_cons_succ]))
      (refine inN_read rfl (yl_cell tcMAP rfl rfl rfl (fun W hS => hS.1)) ?_; (try simp only [Act.put, List.getElem_toArray, List.getElem_cons_zero, List.getElem_cons_succ, List.setIfInBounds_toArray, List.set_cons_zero, List.set_cons_succ]))
      (refine inN_read rfl (yl_load rfl rfl rfl (fun W hS => run_load_s tyKEY _ [.int .i64 (m : Int), .string (bs s)] rfl hS.2.1)) ?_; (try simp only [Act.put, List.getElem_toArray, List.getElem_cons_zero, List.getElem_cons_succ, List.setIfInBounds_toArray, List.set_cons_zero, List.set_cons_succ]))
      (refine inN_read rfl (yl_look (m := .map (some mb)) (k := keyV (m, s)) rfl rfl rfl rfl (fun W hS => HLK.out W hS.2.2)) ?_; (try simp only [Act.put, List.getElem_toArray, List.getElem_cons_zero, List.getElem_cons_succ, List.setIfInBounds_toArray, List.set_cons_zero, List.set_cons_succ]))
      (refine inN_read (v := ?_) rfl (Or.inl ⟨by rfl, ?_⟩) ?_; rotate_left 1; (focus (intro W hSW; clear hSW; go_simp; (try (with_reducible rfl)))); (try simp only [Act.put, List.getElem_toArray, List.getElem_cons_zero, List.getElem_cons_succ, List.setIfInBounds_toArray, List.set_cons_zero, List.set_cons_succ]))
      (refine inN_read (v := ?_) rfl (Or.inl ⟨by rfl, ?_⟩) ?_; rotate_left 1; (focus (intro W hSW; clear hSW; go_simp; (try (with_reducible rfl)))); (try simp only [Act.put, List.getElem_toArray, List.getElem_cons_zero, List.getElem_cons_succ, List.setIfInBounds_toArray, List.set_cons_zero, List.set_cons_succ]))
      (refine inN_read (v := ?_) rfl (Or.inl ⟨by rfl, ?_⟩) ?_; rotate_left 1; (focus (intro W hSW; clear hSW; go_simp; (try (with_reducible rfl)))); (try simp only [Act.put, List.getElem_toArray, List.getElem_cons_zero, List.getElem_cons_succ, List.setIfInBounds_toArray, List.set_cons_zero, List.set_cons_succ]))
      (refine inN_read (v := ?_) rfl (Or.inl ⟨by rfl, ?_⟩) ?_; rotate_left 1; (focus (intro W hSW; clear hSW; go_simp; (try (with_reducible rfl)))); (try simp only [Act.put, List.getElem_toArray, List.getElem_cons_zero, List.getElem_cons_succ, List.setIfInBounds_toArray, List.set_cons_zero, List.set_cons_succ]))
      (refine inN_pure (v := ?_) rfl (Or.inl ⟨by rfl, ?_⟩) ?_; rotate_left 1; (focus (intro W hSW; clear hSW; go_simp; (try (with_reducible rfl)))); (try simp only [Act.put, List.getElem_toArray, List.getElem_cons_zero, List.getElem_cons_succ, List.setIfInBounds_toArray, List.set_cons_zero, List.set_cons_succ]))
      refine inN_end ?_
      go_upto_region 12 with (first | (refine at_load 72 rfl ?_; refine wl_load_c rfl 72 _ rfl tcTSS rfl HC.out.cx (by repeat (first | exact List.Mem.head _ | apply List.Mem.tail)) (by repeat (first | exact GetS.cons _ (GetS.nil _) | apply GetS.skip)) ?_) | (refine at_load 54 rfl ?_; refine wl_cell rfl 54 _ rfl tcTS rfl (HC.out.cell (ad := ⟨g, 0, none⟩) (by repeat (first | exact List.Mem.head _ | apply List.Mem.tail)) HXm.out) ?_))
      replace HC := hide (HC.out.g (d1_g _)); refine wp_region_inN (fun W => W.cell? ⟨b, 0, none⟩ = some (.map (some mb)) ∧ (∀ j u, ([.int .i64 (m : Int), .string (bs s)] : List Value)[j]? = some u → W.cell? ((⟨kb, 0, none⟩ : Addr).add j) = some u) ∧ FM W mb E) [6] (Pn.of [(1, 0), (1, 1), (1, 2), (1, 3), (1, 4), (1, 5), (2, 6)] .nil) (by kernel_rfl) (by kernel_rfl) (by kernel_rfl) (by kernel_rfl) (fun _ _ d _ _ h => by cases d <;> exact h) ⟨cf_cell HC.out (by repeat (first | exact List.Mem.head _ | apply List.Mem.tail)) (by repeat (first | exact GetS.cons _ (GetS.nil _) | apply GetS.skip)), cells_at HC.out.cx (by repeat (first | exact List.Mem.head _ | apply List.Mem.tail)) (GetS.all _), HC.out.fs _ (.head _)⟩ ?_
      (refine inN_read (v := ?_) rfl (Or.inl ⟨by rfl, ?_⟩) ?_; rotate_left 1; (focus (intro W hSW; clear hSW; go_simp; (try (with_reducible rfl)))); (try simp only [Act.put, List.getElem_toArray, List.getElem_cons_zero, List.getElem_cons_succ, List.setIfInBounds_toArray, List.set_cons_zero, List.set_cons_succ]))
      (refine inN_read (v := ?_) rfl (Or.inl ⟨by rfl, ?_⟩) ?_; rotate_left 1; (focus (intro W hSW; clear hSW; go_simp; (try (with_reducible rfl)))); (try simp only [Act.put, List.getElem_toArray, List.getElem_cons_zero, List.getElem_cons_succ, List.setIfInBounds_toArray, List.set_cons_zero, List.set_cons_succ]))
      (refine inN_read (v := ?_) rfl (Or.inl ⟨by rfl, ?_⟩) ?_; rotate_left 1; (focus (intro W hSW; clear hSW; go_simp; (try (with_reducible rfl)))); (try simp only [Act.put, List.getElem_toArray, List.getElem_cons_zero, List.getElem_cons_succ, List.setIfInBounds_toArray, List.set_cons_zero, List.set_cons_succ]))
      (refine inN_read rfl (yl_cell tcMAP rfl rfl rfl (fun W hS => hS.1)) ?_; (try simp only [Act.put, List.getElem_toArray, List.getElem_cons_zero, List.getElem_cons_succ, List.setIfInBounds_toArray, List.set_cons_zero, List.set_cons_succ]))
      (refine inN_read rfl (yl_load rfl rfl rfl (fun W hS => run_load_s tyKEY _ [.int .i64 (m : Int), .string (bs s)] rfl hS.2.1)) ?_; (try simp only [Act.put, List.getElem_toArray, List.getElem_cons_zero, List.getElem_cons_succ, List.setIfInBounds_toArray, List.set_cons_zero, List.set_cons_succ]))
      (refine inN_read (v := ?_) rfl (Or.inl ⟨by rfl, ?_⟩) ?_; rotate_left 1; (focus (intro W hSW; clear hSW; go_simp; (try (with_reducible rfl)))); (try simp only [Act.put, List.getElem_toArray, List.getElem_cons_zero, List.getElem_cons_succ, List.setIfInBounds_toArray, List.set_cons_zero, List.set_cons_succ]))
      refine inN_act rfl rfl (fun K' hK => ?_); refine cfo_put (k := keyV (m, s)) (v := .int .i64 n) rfl rfl rfl rfl HC.out (HPT.out _ (HC.out.fs _ (.head _))) (stabS _ _) ?_; intro w' hg hc; clear hg; (replace HC := hide hc; clear hc); (refine hK _ _ (.inl rfl) ?_; clear hK K'; (try simp only [Act.put, List.getElem_toArray, List.getElem_cons_zero, List.getElem_cons_succ, List.setIfInBounds_toArray, List.set_cons_zero, List.set_cons_succ]))
      refine inN_end ?_
      go_upto_region 13 with (fail)
      replace HC := hide (HC.out.g (d1_g _)); refine wp_region_inN (fun W => W.cell? ⟨b, 1, none⟩ = some (.slice (some ⟨g, 0, none⟩) N c) ∧ W.cell? ⟨g, m, none⟩ = some (.slice d1 l.length c1)) [16] (Pn.of [(1, 0), (1, 1), (1, 2), (1, 3), (1, 4), (1, 5), (1, 6), (1, 7), (1, 8), (1, 9), (1, 10), (1, 11), (1, 12), (2, 13), (2, 14), (1, 15), (2, 16)] .nil) (by kernel_rfl) (by kernel_rfl) (by kernel_rfl) (by kernel_rfl) (fun _ _ d _ _ h => by cases d <;> exact h) ⟨cf_cell HC.out (by repeat (first | exact List.Mem.head _ | apply List.Mem.tail)) (by repeat (first | exact GetS.cons _ (GetS.nil _) | apply GetS.skip)), HC.out.cell (ad := ⟨g, 0, none⟩) (by repeat (first | exact List.Mem.head _ | apply List.Mem.tail)) HXm.out⟩ ?_
      (refine inN_read (v := ?_) rfl (Or.inl ⟨by rfl, ?_⟩) ?_; rotate_left 1; (focus (intro W hSW; clear hSW; go_simp; (try (with_reducible rfl)))); (try simp only [Act.put, List.getElem_toArray, List.getElem_cons_zero, List.getElem_cons_succ, List.setIfInBounds_toArray, List.set_cons_zero, List.set_cons_succ]))
      (refine inN_read (v := ?_) rfl (Or.inl ⟨by rfl, ?_⟩) ?_; rotate_left 1; (focus (intro W hSW; clear hSW; go_simp; (try (with_reducible rfl)))); (try simp only [Act.put, List.getElem_toArray, List.getElem_cons_zero, List.getElem_cons_succ, List.setIfInBounds_toArray, List.set_cons_zero, List.set_cons_succ]))
      (refine inN_read (v := ?_) rfl (Or.inl ⟨by rfl, ?_⟩) ?_; rotate_left 1; (focus (intro W hSW; clear hSW; go_simp; (try (with_reducible rfl)))); (try simp only [Act.put, List.getElem_toArray, List.getElem_cons_zero, List.getElem_cons_succ, List.setIfInBounds_toArray, List.set_cons_zero, List.set_cons_succ]))
      (refine inN_read rfl (yl_cell tcTSS rfl rfl rfl (fun W hS => hS.1)) ?_; (try simp only [Act.put, List.getElem_toArray, List.getElem_cons_zero, List.getElem_cons_succ, List.setIfInBounds_toArray, List.set_cons_zero, List.set_cons_succ]))
      (refine inN_read (v := ?_) rfl (Or.inl ⟨by rfl, ?_⟩) ?_; rotate_left 1; (focus (intro W hSW; clear hSW; go_simp; (try (with_reducible rfl)))); (try simp only [Act.put, List.getElem_toArray, List.getElem_cons_zero, List.getElem_cons_succ, List.setIfInBounds_toArray, List.set_cons_zero, List.set_cons_succ]))
      (refine inN_read (v := ?_) rfl (Or.inl ⟨by rfl, ?_⟩) ?_; rotate_left 1; (focus (intro W hSW; clear hSW; go_simp; (try (with_reducible rfl)))); (try simp only [Act.put, List.getElem_toArray, List.getElem_cons_zero, List.getElem_cons_succ, List.setIfInBounds_toArray, List.set_cons_zero, List.set_cons_succ]))
      (refine inN_read (v := ?_) rfl (Or.inl ⟨by rfl, ?_⟩) ?_; rotate_left 1; (focus (intro W hSW; clear hSW; go_simp; (try (with_reducible rfl)))); (try simp only [Act.put, List.getElem_toArray, List.getElem_cons_zero, List.getElem_cons_succ, List.setIfInBounds_toArray, List.set_cons_zero, List.set_cons_succ]))
      (refine inN_read (v := ?_) rfl (Or.inl ⟨by rfl, ?_⟩) ?_; rotate_left 1; (focus (intro W hSW; clear hSW; go_simp; (try (with_reducible rfl)))); (try simp only [Act.put, List.getElem_toArray, List.getElem_cons_zero, List.getElem_cons_succ, List.setIfInBounds_toArray, List.set_cons_zero, List.set_cons_succ]))
      (refine inN_read rfl (yl_cell tcTSS rfl rfl rfl (fun W hS => hS.1)) ?_; (try simp only [Act.put, List.getElem_toArray, List.getElem_cons_zero, List.getElem_cons_succ, List.setIfInBounds_toArray, List.set_cons_zero, List.set_cons_succ]))
      (refine inN_read (v := ?_) rfl (Or.inl ⟨by rfl, ?_⟩) ?_; rotate_left 1; (focus (intro W hSW; clear hSW; go_simp; (try (with_reducible rfl)))); (try simp only [Act.put, List.getElem_toArray, List.getElem_cons_zero, List.getElem_cons_succ, List.setIfInBounds_toArray, List.set_cons_zero, List.set_cons_succ]))
      (refine inN_read (v := ?_) rfl (Or.inl ⟨by rfl, ?_⟩) ?_; rotate_left 1; (focus (intro W hSW; clear hSW; go_simp; (try (with_reducible rfl)))); (try simp only [Act.put, List.getElem_toArray, List.getElem_cons_zero, List.getElem_cons_succ, List.setIfInBounds_toArray, List.set_cons_zero, List.set_cons_succ]))
      (refine inN_read rfl (yl_cell tcTS rfl rfl rfl (fun W hS => hS.2)) ?_; (try simp only [Act.put, List.getElem_toArray, List.getElem_cons_zero, List.getElem_cons_succ, List.setIfInBounds_toArray, List.set_cons_zero, List.set_cons_succ]))
      (refine inN_read (v := ?_) rfl (Or.inl ⟨by rfl, ?_⟩) ?_; rotate_left 1; (focus (intro W hSW; clear hSW; go_simp; (try (with_reducible rfl)))); (try simp only [Act.put, List.getElem_toArray, List.getElem_cons_zero, List.getElem_cons_succ, List.setIfInBounds_toArray, List.set_cons_zero, List.set_cons_succ]))
      refine inN_act rfl rfl (fun K' hK => ?_); (refine cfo_bl 54 1 _ rfl 9 [.string (bs s)] HC.out (by kernel_rfl) ?_; intro sb w' hn hg hc; clear hg; (replace HC := hide hc; clear hc)); refine hK _ _ (.inr (fun _ => ⟨cf_cell HC.out (by repeat (first | exact List.Mem.head _ | apply List.Mem.tail)) (by repeat (first | exact GetS.cons _ (GetS.nil _) | apply GetS.skip)), HC.out.cell (ad := ⟨g, 0, none⟩) (by repeat (first | exact List.Mem.head _ | apply List.Mem.tail)) HXm.out⟩)) ?_; clear hK K'; (try simp only [Act.put, List.getElem_toArray, List.getElem_cons_zero, List.getElem_cons_succ, List.setIfInBounds_toArray, List.set_cons_zero, List.set_cons_succ])
      refine inN_act rfl rfl (fun K' hK => ?_); replace HC := hide HC.out.swapR; refine cfo_ap (v := .slice d1 l.length c1) _ _ rfl Try.underlying54 infoSTR (by decide) (by decide) rfl rfl HC.out rfl rfl HL9.out ?_; intro d9 c9 w' hg hc; clear hg; (replace HC := hide hc; clear hc); replace HC := hide HC.out.swapR; refine hK _ _ (.inr (fun _ => ⟨cf_cell HC.out (by repeat (first | exact List.Mem.head _ | apply List.Mem.tail)) (by repeat (first | exact GetS.cons _ (GetS.nil _) | apply GetS.skip)), HC.out.cell (ad := ⟨g, 0, none⟩) (by repeat (first | exact List.Mem.head _ | apply List.Mem.tail)) HXm.out⟩)) ?_; clear hK K'; (try simp only [Act.put, List.getElem_toArray, List.getElem_cons_zero, List.getElem_cons_succ, List.setIfInBounds_toArray, List.set_cons_zero, List.set_cons_succ])
      (refine inN_read (v := ?_) rfl (Or.inl ⟨by rfl, ?_⟩) ?_; rotate_left 1; (focus (intro W hSW; clear hSW; go_simp; (try (with_reducible rfl)))); (try simp only [Act.put, List.getElem_toArray, List.getElem_cons_zero, List.getElem_cons_succ, List.setIfInBounds_toArray, List.set_cons_zero, List.set_cons_succ]))
      refine inN_act rfl rfl (fun K' hK => ?_); refine cfo_rowset (us := [_]) 54 _ _ rfl rfl rfl tcTS.sz rfl HC.out HXl.out ?_; intro w' hg hc; clear hg; (replace HC := hide hc; clear hc); (refine hK _ _ (.inl rfl) ?_; clear hK K'; (try simp only [Act.put, List.getElem_toArray, List.getElem_cons_zero, List.getElem_cons_succ, List.setIfInBounds_toArray, List.set_cons_zero, List.set_cons_succ]))
      refine inN_end ?_
      go_wp2
      go_ret
      refine ⟨rfl, some ⟨g, 0, none⟩, c, (.slice d9 (l.length + 1) c9, l ++ [(s, n)]) :: VR, rfl, ?_⟩
      unfold PC
      have hN2 : ((.slice d9 (l.length + 1) c9, l ++ [(s, n)]) :: VR : Vm).length = N := by rw [HNm.out, ← Hm.out]; rfl
      rw [hN2]
      have H := HC.out.drop
      have e1 := set_last (VR.map Prod.fst) (Value.slice d1 l.length c1) (Value.slice d9 (l.length + 1) c9)
      rw [List.length_map, Hm.out] at e1
      have e2 : rowP (Value.slice d9 (l.length + 1) c9, l ++ [(s, n)]) = ⟨.slice d9 (l.length + 1) c9, 9, 1, l.length + 1, nmC l ++ [.string (bs s)]⟩ := by unfold rowP nmC; simp
      simp only [List.map_cons]
      rw [e2, ← e1]
      exact H
end Go.Proofs.Ytmoekalagollhaa.So
