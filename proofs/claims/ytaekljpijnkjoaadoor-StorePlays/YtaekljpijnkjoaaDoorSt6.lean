/-
  Package store's Put.
-/
import Derived.Test.YtaekljpijnkjoaaDoorSt5
namespace Go.Proofs.YtaekljpijnkjoaaDoor.St
open Go.RowKit Go.Maps Go.Proofs.YtaekljpijnkjoaaDoor.Tx
set_option linter.unusedVariables false
set_option linter.unusedSimpArgs false
set_option maxRecDepth 100000

def errP (n t : List UInt8) (l : List Pr) : Int := if nmB n = false then 70 else if 131072 < t.length then 2 else if hasL n l = false ∧ 64 ≤ l.length then 3 else 0
def putS (n t : List UInt8) (l : List Pr) : List Pr := if errP n t l = 0 then (n, t) :: without n l else l
theorem keyOf_any (n : List UInt8) (hm : n.length ≤ maxLen) (w : World) : Calls Tryd.prog 22 #[.string (bs n)] w fun e w' => e = .returned (.tuple #[.agg (padV (kkV n)), .bool (nmB n)]) ∧ w.grownBy w' none := by
  cases hn : nmB n
  · rw [show kkV n = [] by simp [kkV, hn]]
    exact (keyOf_no n hn hm w).mono fun e w' ⟨he, hw⟩ => ⟨he, by rw [hw]; exact alloc_g _ _⟩
  · rw [show kkV n = n by simp [kkV, hn]]
    exact (keyOf_yes n hn w).mono fun e w' ⟨he, hw⟩ => ⟨he, by rw [hw]; exact alloc_g _ _⟩
theorem put_nil (w : World) (n t : Value) : Calls Tryd.prog 8 #[.pointer none, n, t] w fun e w' => e = .returned (.int .i64 1) ∧ w' = w := by
  go_enter Tryd.func8, Tryd.ntmps8
  go_wp2
  go_ret
  exact ⟨rfl, rfl⟩
set_option maxHeartbeats 1000000 in
theorem put_bad (n t : List UInt8) (hm : n.length ≤ maxLen) (ht : t.length ≤ maxLen) (hn : nmB n = false) (h : Nat) (w : World) : Calls Tryd.prog 8 #[.pointer (some ⟨h, 0, none⟩), .string (bs n), .string (bs t)] w fun e w' => e = .returned (.int .i64 70) ∧ w.grownBy w' none := by
  (obtain ⟨Z, hZ⟩ : ∃ Z, padV [] = Z := ⟨_, rfl⟩; have hpz : Z.size = 24 := (by rw [← hZ]; exact padV_size (by simp)); rw [padV_nil] at hZ; have HF := hide (fun W => keyOf_any n hm W); have hps := padV_size (kk_len n); have hp1 := padV_one (kkV n))
  generalize padV (kkV n) = K at HF hps hp1
  have hsc := fun (W : World) => stores_new W (K := Z) (K' := K) hpz hps hp1
  rw [hn] at HF
  clear hp1 hm ht hn
  go_enter Tryd.func8, Tryd.ntmps8
  go_wp2_with (go_at_call 22; refine (HF.out _).mono ?_; rintro e w1 ⟨rfl, hg⟩; have HG := hide hg; clear hg)
  go_ret
  exact ⟨rfl, grown_trans HG.out (alloc_g _ _)⟩
set_option maxHeartbeats 1000000 in
theorem put_long (n t : List UInt8) (hm : n.length ≤ maxLen) (ht : t.length ≤ maxLen) (hn : nmB n = true) (hl : 131072 < t.length) (h : Nat) (w : World) : Calls Tryd.prog 8 #[.pointer (some ⟨h, 0, none⟩), .string (bs n), .string (bs t)] w fun e w' => e = .returned (.int .i64 2) ∧ w.grownBy w' none := by
  (obtain ⟨Z, hZ⟩ : ∃ Z, padV [] = Z := ⟨_, rfl⟩; have hpz : Z.size = 24 := (by rw [← hZ]; exact padV_size (by simp)); rw [padV_nil] at hZ; have HF := hide (fun W => keyOf_any n hm W); have hps := padV_size (kk_len n); have hp1 := padV_one (kkV n))
  generalize padV (kkV n) = K at HF hps hp1
  have hsc := fun (W : World) => stores_new W (K := Z) (K' := K) hpz hps hp1
  rw [hn] at HF
  have hz := bs_size t
  obtain ⟨N, hN⟩ : ∃ N, t.length = N := ⟨_, rfl⟩
  rw [hN] at hz ht hl
  have hl1 : (131072 : Int) < N := by omega
  have hl2 : (N : Int) ≤ 9223372036854775807 := by unfold maxLen at ht; omega
  clear hp1 hm ht hn hl hN
  go_enter Tryd.func8, Tryd.ntmps8
  go_wp2_with (go_at_call 22; refine (HF.out _).mono ?_; rintro e w1 ⟨rfl, hg⟩; have HG := hide hg; clear hg)
  go_ret
  exact ⟨rfl, grown_trans HG.out (alloc_g _ _)⟩
def PutR (ok : Bool) (l : List Pr) (A B : Prop) : Prop := (ok = false ∧ 64 ≤ l.length ∧ A) ∨ (¬ (ok = false ∧ 64 ≤ l.length) ∧ B)
set_option maxHeartbeats 4000000 in
theorem put_in {w : World} {h b : Nat} {l : List Pr} (s : Sto w h b l) (n t : List UInt8) (hm : n.length ≤ maxLen) (hn : nmB n = true) (hl : t.length ≤ 131072) (hmax : l.length < maxLen) :
    Calls Tryd.prog 8 #[.pointer (some ⟨h, 0, none⟩), .string (bs n), .string (bs t)] w fun e w' => PutR (hasL n l) l (e = .returned (.int .i64 3) ∧ w.grownBy w' none) (e = .returned (.int .i64 0) ∧ w.grownBy w' (some b) ∧ Sto w' h b ((n, t) :: without n l)) := by
  (obtain ⟨Z, hZ⟩ : ∃ Z, padV [] = Z := ⟨_, rfl⟩; have hpz : Z.size = 24 := (by rw [← hZ]; exact padV_size (by simp)); rw [padV_nil] at hZ; have HF := hide (fun W => keyOf_any n hm W); have hps := padV_size (kk_len n); have hp1 := padV_one (kkV n))
  rw [show kkV n = n by simp [kkV, hn]] at HF hps hp1
  have HL := hide (fun (W : World) (f : FM W b l) => f.look2 hn)
  have HU := hide (fun (W : World) (f : FM W b l) => f.put hmax hn t)
  have HFU := hide (fun (W : World) (s : Sto W h b l) => full_at s)
  unfold fileV at HL HU
  generalize padV n = K at HF hps hp1 HL HU
  have hsc := fun (W : World) => stores_new W (K := Z) (K' := K) hpz hps hp1
  rw [hn] at HF
  have hz := bs_size t
  obtain ⟨N, hN⟩ : ∃ N, t.length = N := ⟨_, rfl⟩
  rw [hN] at hz hl
  obtain ⟨u, hu⟩ : ∃ u, (getL n l).1 = u := ⟨_, rfl⟩
  obtain ⟨ok, hok⟩ : ∃ ok, hasL n l = ok := ⟨_, rfl⟩
  rw [hu, hok] at HL
  rw [hok]
  have b0' : (⟨#[]⟩ : ByteArray) = bs [] := rfl
  have HS := hide s
  clear hp1 hm hn hN s hmax hu hok
  go_enter Tryd.func8, Tryd.ntmps8
  go_upto_region 8 with (go_at_call 22; refine (HF.out _).mono ?_; rintro e w1 ⟨rfl, hg⟩; have HG := hide hg; clear hg)
  obtain ⟨V, hV⟩ : ∃ V, w1.alloc (.cells K 52) = V := ⟨_, rfl⟩
  have g1 : w.grownBy V none := by rw [← hV]; exact grown_trans HG.out (alloc_g _ _)
  have k1 : V.heap[w1.heap.size]? = some (.cells K 52 (0, 0)) := by rw [← hV]; exact heap_alloc_last _ _
  simp only [hV]
  generalize w1.heap.size = kb at k1 ⊢
  have sok : ∀ W, V.grownBy W none → (W.cell? ⟨h, 0, none⟩ = some (.map (some b)) ∧ Hid (W.heap[kb]? = some (.cells K 52 (0, 0))) ∧ (Instr.lookup 48 (.map (some b)) (.agg K) true).run Tryd.prog W = .ok (.tuple #[.agg #[.string (bs u)], .bool ok]) W) := fun W hg => by
    have sW := HS.out.kept (grown_trans g1 hg) (by simp) (by simp)
    exact ⟨sW.cell, hide ((hg.block kb (Array.getElem?_eq_some_iff.1 k1).1 (by simp)).trans k1), HL.out W sW.files⟩
  have SOK := hide sok
  have HG1 := hide g1
  have HK1 := hide k1
  clear sok g1 k1 hV HG hsc HF
  refine wp_region_held_drew (S := fun W => (W.cell? ⟨h, 0, none⟩ = some (.map (some b)) ∧ Hid (W.heap[kb]? = some (.cells K 52 (0, 0))) ∧ (Instr.lookup 48 (.map (some b)) (.agg K) true).run Tryd.prog W = .ok (.tuple #[.agg #[.string (bs u)], .bool ok]) W)) (by kernel_rfl) (SOK.out _ (drew_g _)) (fun hHeld => ?_)
  (refine wpAnyH_take (i := 0) (v := ?_) rfl (by kernel_rfl) (by kernel_rfl) (by kernel_rfl) (fun _ _ _ h => h) (Or.inl ⟨by rfl, ?_⟩) (by assumption) ?_; rotate_left 1; (focus (intro w hSw; (try dsimp only at hSw); go_simp; (try (with_reducible rfl)))); (try simp only [Act.put, List.getElem_toArray, List.getElem_cons_zero, List.getElem_cons_succ, List.setIfInBounds_toArray, List.set_cons_zero, List.set_cons_succ]))
  (refine wpAnyH_take (i := 1) (v := ?_) rfl (by kernel_rfl) (by kernel_rfl) (by kernel_rfl) (fun _ _ _ h => h) (Or.inl ⟨by rfl, ?_⟩) (by assumption) ?_; rotate_left 1; (focus (intro w hSw; (try dsimp only at hSw); go_simp; (try (with_reducible rfl)))); (try simp only [Act.put, List.getElem_toArray, List.getElem_cons_zero, List.getElem_cons_succ, List.setIfInBounds_toArray, List.set_cons_zero, List.set_cons_succ]))
  (refine wpAnyH_take (i := 2) (v := ?_) rfl (by kernel_rfl) (by kernel_rfl) (by kernel_rfl) (fun _ _ _ h => h) (Or.inl ⟨by rfl, ?_⟩) (by assumption) ?_; rotate_left 1; (focus (intro w hSw; (try dsimp only at hSw); go_simp; (try (with_reducible rfl)))); (try simp only [Act.put, List.getElem_toArray, List.getElem_cons_zero, List.getElem_cons_succ, List.setIfInBounds_toArray, List.set_cons_zero, List.set_cons_succ]))
  (refine wpAnyH_take (i := 3) (v := ?_) rfl (by kernel_rfl) (by kernel_rfl) (by kernel_rfl) (fun _ _ _ h => h) (Or.inl ⟨by rfl, ?_⟩) (by assumption) ?_; rotate_left 1; (focus (intro w hSw; (try dsimp only at hSw); go_simp; (try (with_reducible rfl)))); (try simp only [Act.put, List.getElem_toArray, List.getElem_cons_zero, List.getElem_cons_succ, List.setIfInBounds_toArray, List.set_cons_zero, List.set_cons_succ]))
  (refine wpAnyH_take (i := 4) (v := .agg K) rfl (by kernel_rfl) (by kernel_rfl) (by kernel_rfl) (fun _ _ _ h => h) (yk (by rfl) _ rfl _ rfl K (fun w hSw => hSw.2.1.out) hps) (by assumption) ?_; (try simp only [Act.put, List.getElem_toArray, List.getElem_cons_zero, List.getElem_cons_succ, List.setIfInBounds_toArray, List.set_cons_zero, List.set_cons_succ]))
  (refine wpAnyH_take (i := 5) (v := ?_) rfl (by kernel_rfl) (by kernel_rfl) (by kernel_rfl) (fun _ _ _ h => h) (Or.inl ⟨by rfl, ?_⟩) (by assumption) ?_; rotate_left 1; (focus (intro w hSw; (try dsimp only at hSw); go_simp; (try (with_reducible rfl)))); (try simp only [Act.put, List.getElem_toArray, List.getElem_cons_zero, List.getElem_cons_succ, List.setIfInBounds_toArray, List.set_cons_zero, List.set_cons_succ]))
  (refine wpAnyH_take (i := 6) (v := ?_) rfl (by kernel_rfl) (by kernel_rfl) (by kernel_rfl) (fun _ _ _ h => h) (Or.inl ⟨by rfl, ?_⟩) (by assumption) ?_; rotate_left 1; (focus (intro w hSw; (try dsimp only at hSw); go_simp; (try (with_reducible rfl)))); (try simp only [Act.put, List.getElem_toArray, List.getElem_cons_zero, List.getElem_cons_succ, List.setIfInBounds_toArray, List.set_cons_zero, List.set_cons_succ]))
  (refine wpAnyH_take (i := 7) (v := ?_) rfl (by kernel_rfl) (by kernel_rfl) (by kernel_rfl) (fun _ _ _ h => h) (Or.inl ⟨by rfl, ?_⟩) (by assumption) ?_; rotate_left 1; (focus (intro w hSw; (try dsimp only at hSw); go_simp; (try (with_reducible rfl)))); (try simp only [Act.put, List.getElem_toArray, List.getElem_cons_zero, List.getElem_cons_succ, List.setIfInBounds_toArray, List.set_cons_zero, List.set_cons_succ]))
  (refine wpAnyH_take (i := 8) (v := ?_) rfl (by kernel_rfl) (by kernel_rfl) (by kernel_rfl) (fun _ _ _ h => h) (Or.inl ⟨by rfl, ?_⟩) (by assumption) ?_; rotate_left 1; (focus (intro w hSw; (try dsimp only at hSw); go_simp; (try (with_reducible rfl)))); (try simp only [Act.put, List.getElem_toArray, List.getElem_cons_zero, List.getElem_cons_succ, List.setIfInBounds_toArray, List.set_cons_zero, List.set_cons_succ]))
  refine ready_turn (i := 9) rfl (by kernel_rfl) (fun Q hQ => ?_)
  go_simp
  refine hQ.out _ _ (fun W => (W.cell? ⟨h, 0, none⟩ = some (.map (some b)) ∧ Hid (W.heap[kb]? = some (.cells K 52 (0, 0))) ∧ (Instr.lookup 48 (.map (some b)) (.agg K) true).run Tryd.prog W = .ok (.tuple #[.agg #[.string (bs u)], .bool ok]) W)) (fun _ h => h) (SOK.out _ (grown_trans (alloc_g _ _) (drew_g _))) (fun hHeld => ?_)
  clear hQ Q
  (try simp only [Act.put, List.getElem_toArray, List.getElem_cons_zero, List.getElem_cons_succ, List.setIfInBounds_toArray, List.set_cons_zero, List.set_cons_succ])
  refine ready_turn (i := 10) rfl (by kernel_rfl) (fun Q hQ => ?_)
  go_simp
  refine hQ.out _ _ (fun W => (W.cell? ⟨h, 0, none⟩ = some (.map (some b)) ∧ Hid (W.heap[kb]? = some (.cells K 52 (0, 0))) ∧ (Instr.lookup 48 (.map (some b)) (.agg K) true).run Tryd.prog W = .ok (.tuple #[.agg #[.string (bs u)], .bool ok]) W)) (fun _ h => h) (SOK.out _ (grown_trans (alloc_g _ _) (drew_g _))) (fun hHeld => ?_)
  clear hQ Q
  (try simp only [Act.put, List.getElem_toArray, List.getElem_cons_zero, List.getElem_cons_succ, List.setIfInBounds_toArray, List.set_cons_zero, List.set_cons_succ])
  (refine wpAnyH_take (i := 11) (v := ?_) rfl (by kernel_rfl) (by kernel_rfl) (by kernel_rfl) (fun _ _ _ h => h) (Or.inl ⟨by rfl, ?_⟩) (by assumption) ?_; rotate_left 1; (focus (intro w hSw; (try dsimp only at hSw); go_simp; (try (with_reducible rfl)))); (try simp only [Act.put, List.getElem_toArray, List.getElem_cons_zero, List.getElem_cons_succ, List.setIfInBounds_toArray, List.set_cons_zero, List.set_cons_succ]))
  refine wpAnyH_done (by kernel_rfl) ?_ _
  obtain ⟨V2, hV2⟩ : ∃ V2, (V.alloc (.cells #[.string (bs u)] 56)).drew = V2 := ⟨_, rfl⟩
  have g2 : V.grownBy V2 none := by rw [← hV2]; exact grown_trans (alloc_g _ _) (drew_g _)
  simp only [hV2]
  have s2 := HS.out.kept (grown_trans HG1.out g2) (by simp) (by simp)
  have k2 := (g2.block kb (Array.getElem?_eq_some_iff.1 HK1.out).1 (by simp)).trans HK1.out
  have HFU2 := hide (HFU.out _ s2)
  have s3 : Sto V2.drew h b l := s2.kept (drew_g _) (by simp) (by simp)
  obtain ⟨w2, hrun, hfm, hg3⟩ := HU.out V2.drew s3.files
  have HR := hide (s3.turn hg3 hfm)
  have HG3 := hide (grown_then (grown_trans (grown_trans HG1.out g2) (drew_g _)) hg3)
  have HK2 := hide k2
  have HK3 := hide (s3.files.held (k := kb) (by exact k2) hg3)
  have HC3 := hide s3.cell
  have HG2 := hide (grown_trans HG1.out g2)
  clear hHeld SOK HG1 HK1 HL HU HFU HS hV2 g2 s2 s3 hfm hg3 k2
  cases ok
  · by_cases h64 : 64 ≤ l.length
    · rw [decide_eq_true h64] at HFU2
      go_wp2_with (go_at_call 23; refine HFU2.out.mono ?_; rintro e w3 ⟨rfl, rfl⟩)
      go_ret
      exact .inl ⟨rfl, h64, rfl, HG2.out⟩
    · rw [decide_eq_false h64] at HFU2
      have HI : Hid (¬ 64 ≤ l.length) := hide h64
      go_upto_region 11 with (go_at_call 23; refine HFU2.out.mono ?_; rintro e w3 ⟨rfl, rfl⟩)
      (refine wp_region_held_drew (S := fun W => (W.cell? ⟨h, 0, none⟩ = some (.map (some b)) ∧ Hid (W.heap[kb]? = some (.cells K 52 (0, 0))))) (by kernel_rfl) ⟨HC3.out, hide HK2.out⟩ (fun hHeld => ?_); (refine wpAnyH_take (i := 0) (v := ?_) rfl (by kernel_rfl) (by kernel_rfl) (by kernel_rfl) (fun _ _ _ h => h) (Or.inl ⟨by rfl, ?_⟩) (by assumption) ?_; rotate_left 1; (focus (intro w hSw; (try dsimp only at hSw); go_simp; (try (with_reducible rfl)))); (try simp only [Act.put, List.getElem_toArray, List.getElem_cons_zero, List.getElem_cons_succ, List.setIfInBounds_toArray, List.set_cons_zero, List.set_cons_succ])); (refine wpAnyH_take (i := 1) (v := ?_) rfl (by kernel_rfl) (by kernel_rfl) (by kernel_rfl) (fun _ _ _ h => h) (Or.inl ⟨by rfl, ?_⟩) (by assumption) ?_; rotate_left 1; (focus (intro w hSw; (try dsimp only at hSw); go_simp; (try (with_reducible rfl)))); (try simp only [Act.put, List.getElem_toArray, List.getElem_cons_zero, List.getElem_cons_succ, List.setIfInBounds_toArray, List.set_cons_zero, List.set_cons_succ])); (refine wpAnyH_take (i := 2) (v := ?_) rfl (by kernel_rfl) (by kernel_rfl) (by kernel_rfl) (fun _ _ _ h => h) (Or.inl ⟨by rfl, ?_⟩) (by assumption) ?_; rotate_left 1; (focus (intro w hSw; (try dsimp only at hSw); go_simp; (try (with_reducible rfl)))); (try simp only [Act.put, List.getElem_toArray, List.getElem_cons_zero, List.getElem_cons_succ, List.setIfInBounds_toArray, List.set_cons_zero, List.set_cons_succ])); (refine wpAnyH_take (i := 3) (v := ?_) rfl (by kernel_rfl) (by kernel_rfl) (by kernel_rfl) (fun _ _ _ h => h) (Or.inl ⟨by rfl, ?_⟩) (by assumption) ?_; rotate_left 1; (focus (intro w hSw; (try dsimp only at hSw); go_simp; (try (with_reducible rfl)))); (try simp only [Act.put, List.getElem_toArray, List.getElem_cons_zero, List.getElem_cons_succ, List.setIfInBounds_toArray, List.set_cons_zero, List.set_cons_succ])); (refine wpAnyH_take (i := 4) (v := .agg K) rfl (by kernel_rfl) (by kernel_rfl) (by kernel_rfl) (fun _ _ _ h => h) (yk (by rfl) _ rfl _ rfl K (fun w hSw => hSw.2.out) hps) (by assumption) ?_; (try simp only [Act.put, List.getElem_toArray, List.getElem_cons_zero, List.getElem_cons_succ, List.setIfInBounds_toArray, List.set_cons_zero, List.set_cons_succ])); (refine wpAnyH_take (i := 5) (v := ?_) rfl (by kernel_rfl) (by kernel_rfl) (by kernel_rfl) (fun _ _ _ h => h) (Or.inl ⟨by rfl, ?_⟩) (by assumption) ?_; rotate_left 1; (focus (intro w hSw; (try dsimp only at hSw); go_simp; (try (with_reducible rfl)))); (try simp only [Act.put, List.getElem_toArray, List.getElem_cons_zero, List.getElem_cons_succ, List.setIfInBounds_toArray, List.set_cons_zero, List.set_cons_succ])); (refine wpAnyH_take (i := 6) (v := ?_) rfl (by kernel_rfl) (by kernel_rfl) (by kernel_rfl) (fun _ _ _ h => h) (Or.inl ⟨by rfl, ?_⟩) (by assumption) ?_; rotate_left 1; (focus (intro w hSw; (try dsimp only at hSw); go_simp; (try (with_reducible rfl)))); (try simp only [Act.put, List.getElem_toArray, List.getElem_cons_zero, List.getElem_cons_succ, List.setIfInBounds_toArray, List.set_cons_zero, List.set_cons_succ])); refine ready_turn (i := 7) rfl (by kernel_rfl) (fun Q hQ => ?_); go_simp; refine hQ.out _ _ (fun W => (W.cell? ⟨h, 0, none⟩ = some (.map (some b)) ∧ Hid (W.heap[kb]? = some (.cells K 52 (0, 0))))) (fun _ h => h) ⟨HR.out.cell, hide HK3.out⟩ (fun hHeld => ?_); clear hQ Q; (try simp only [Act.put, List.getElem_toArray, List.getElem_cons_zero, List.getElem_cons_succ, List.setIfInBounds_toArray, List.set_cons_zero, List.set_cons_succ]); refine wpAnyH_done (by kernel_rfl) ?_ _; go_wp2; go_ret; exact .inr ⟨by first | exact (fun h => HI.out h.2) | (intro h; cases h.1), rfl, HG3.out, HR.out⟩)
  · have HI : Hid True := hide trivial
    go_upto_region 11 with fail
    (refine wp_region_held_drew (S := fun W => (W.cell? ⟨h, 0, none⟩ = some (.map (some b)) ∧ Hid (W.heap[kb]? = some (.cells K 52 (0, 0))))) (by kernel_rfl) ⟨HC3.out, hide HK2.out⟩ (fun hHeld => ?_); (refine wpAnyH_take (i := 0) (v := ?_) rfl (by kernel_rfl) (by kernel_rfl) (by kernel_rfl) (fun _ _ _ h => h) (Or.inl ⟨by rfl, ?_⟩) (by assumption) ?_; rotate_left 1; (focus (intro w hSw; (try dsimp only at hSw); go_simp; (try (with_reducible rfl)))); (try simp only [Act.put, List.getElem_toArray, List.getElem_cons_zero, List.getElem_cons_succ, List.setIfInBounds_toArray, List.set_cons_zero, List.set_cons_succ])); (refine wpAnyH_take (i := 1) (v := ?_) rfl (by kernel_rfl) (by kernel_rfl) (by kernel_rfl) (fun _ _ _ h => h) (Or.inl ⟨by rfl, ?_⟩) (by assumption) ?_; rotate_left 1; (focus (intro w hSw; (try dsimp only at hSw); go_simp; (try (with_reducible rfl)))); (try simp only [Act.put, List.getElem_toArray, List.getElem_cons_zero, List.getElem_cons_succ, List.setIfInBounds_toArray, List.set_cons_zero, List.set_cons_succ])); (refine wpAnyH_take (i := 2) (v := ?_) rfl (by kernel_rfl) (by kernel_rfl) (by kernel_rfl) (fun _ _ _ h => h) (Or.inl ⟨by rfl, ?_⟩) (by assumption) ?_; rotate_left 1; (focus (intro w hSw; (try dsimp only at hSw); go_simp; (try (with_reducible rfl)))); (try simp only [Act.put, List.getElem_toArray, List.getElem_cons_zero, List.getElem_cons_succ, List.setIfInBounds_toArray, List.set_cons_zero, List.set_cons_succ])); (refine wpAnyH_take (i := 3) (v := ?_) rfl (by kernel_rfl) (by kernel_rfl) (by kernel_rfl) (fun _ _ _ h => h) (Or.inl ⟨by rfl, ?_⟩) (by assumption) ?_; rotate_left 1; (focus (intro w hSw; (try dsimp only at hSw); go_simp; (try (with_reducible rfl)))); (try simp only [Act.put, List.getElem_toArray, List.getElem_cons_zero, List.getElem_cons_succ, List.setIfInBounds_toArray, List.set_cons_zero, List.set_cons_succ])); (refine wpAnyH_take (i := 4) (v := .agg K) rfl (by kernel_rfl) (by kernel_rfl) (by kernel_rfl) (fun _ _ _ h => h) (yk (by rfl) _ rfl _ rfl K (fun w hSw => hSw.2.out) hps) (by assumption) ?_; (try simp only [Act.put, List.getElem_toArray, List.getElem_cons_zero, List.getElem_cons_succ, List.setIfInBounds_toArray, List.set_cons_zero, List.set_cons_succ])); (refine wpAnyH_take (i := 5) (v := ?_) rfl (by kernel_rfl) (by kernel_rfl) (by kernel_rfl) (fun _ _ _ h => h) (Or.inl ⟨by rfl, ?_⟩) (by assumption) ?_; rotate_left 1; (focus (intro w hSw; (try dsimp only at hSw); go_simp; (try (with_reducible rfl)))); (try simp only [Act.put, List.getElem_toArray, List.getElem_cons_zero, List.getElem_cons_succ, List.setIfInBounds_toArray, List.set_cons_zero, List.set_cons_succ])); (refine wpAnyH_take (i := 6) (v := ?_) rfl (by kernel_rfl) (by kernel_rfl) (by kernel_rfl) (fun _ _ _ h => h) (Or.inl ⟨by rfl, ?_⟩) (by assumption) ?_; rotate_left 1; (focus (intro w hSw; (try dsimp only at hSw); go_simp; (try (with_reducible rfl)))); (try simp only [Act.put, List.getElem_toArray, List.getElem_cons_zero, List.getElem_cons_succ, List.setIfInBounds_toArray, List.set_cons_zero, List.set_cons_succ])); refine ready_turn (i := 7) rfl (by kernel_rfl) (fun Q hQ => ?_); go_simp; refine hQ.out _ _ (fun W => (W.cell? ⟨h, 0, none⟩ = some (.map (some b)) ∧ Hid (W.heap[kb]? = some (.cells K 52 (0, 0))))) (fun _ h => h) ⟨HR.out.cell, hide HK3.out⟩ (fun hHeld => ?_); clear hQ Q; (try simp only [Act.put, List.getElem_toArray, List.getElem_cons_zero, List.getElem_cons_succ, List.setIfInBounds_toArray, List.set_cons_zero, List.set_cons_succ]); refine wpAnyH_done (by kernel_rfl) ?_ _; go_wp2; go_ret; exact .inr ⟨by first | exact (fun h => HI.out h.2) | (intro h; cases h.1), rfl, HG3.out, HR.out⟩)
theorem but_g {a b : World} (h : a.grownBy b none) (row : Option Nat) : a.grownBy b row := ⟨h.os, h.tape, h.output, h.size, fun i hi _ => h.block i hi (by simp)⟩
theorem put_at {w : World} {h b : Nat} {l : List Pr} (s : Sto w h b l) (n t : List UInt8) (hm : n.length ≤ maxLen) (ht : t.length ≤ maxLen) (hmax : l.length < maxLen) :
    Calls Tryd.prog 8 #[.pointer (some ⟨h, 0, none⟩), .string (bs n), .string (bs t)] w fun e w' => e = .returned (.int .i64 (errP n t l)) ∧ w.grownBy w' (some b) ∧ Sto w' h b (putS n t l) := by
  unfold putS errP
  cases hn : nmB n
  · refine (put_bad n t hm ht hn h w).mono fun e w' ⟨he, hg⟩ => ⟨by rw [he]; rfl, but_g hg _, ?_⟩
    exact s.kept hg (by simp) (by simp)
  · by_cases hl : 131072 < t.length
    · refine (put_long n t hm ht hn hl h w).mono fun e w' ⟨he, hg⟩ => ⟨by simp [he, hl], but_g hg _, ?_⟩
      simpa [hl] using s.kept hg (by simp) (by simp)
    · refine (put_in s n t hm hn (by omega) hmax).mono fun e w' hh => ?_
      rcases hh with ⟨hc1, hc2, he, hg⟩ | ⟨hc, he, hg, hs⟩
      · have hc : hasL n l = false ∧ 64 ≤ l.length := ⟨hc1, hc2⟩
        refine ⟨by simp [he, hl, hc], but_g hg _, ?_⟩
        simpa [hl, hc] using s.kept hg (by simp) (by simp)
      · rw [if_neg (by simp), if_neg hl, if_neg hc]
        exact ⟨he, hg, hs⟩
theorem del_at {w : World} {h b : Nat} {l : List Pr} (s : Sto w h b l) (n : List UInt8) (hm : n.length ≤ maxLen) :
    Calls Tryd.prog 12 #[.pointer (some ⟨h, 0, none⟩), .string (bs n)] w fun e w' => e = .returned (.bool (hasL n l)) ∧ w.grownBy w' (some b) ∧ Sto w' h b (without n l) := by
  cases hh : hasL n l
  · refine (del_no s n hm hh).mono fun e w' ⟨he, hg⟩ => ⟨he, but_g hg _, ?_⟩
    have : without n l = l := List.filter_eq_self.2 (fun p hp => by simpa using getL_none hh p hp)
    rw [this]
    exact s.kept hg (by simp) (by simp)
  · exact del_yes s n hm hh
end Go.Proofs.YtaekljpijnkjoaaDoor.St
