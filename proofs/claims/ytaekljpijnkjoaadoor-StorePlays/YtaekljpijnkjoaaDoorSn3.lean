/-
  Package store's Names of nil, and Fork.
-/
import Derived.Test.YtaekljpijnkjoaaDoorSn2
namespace Go.Proofs.YtaekljpijnkjoaaDoor.St
open Go.RowKit Go.Maps Go.Sort Go.Proofs.YtaekljpijnkjoaaDoor.Tx
set_option linter.unusedVariables false
set_option linter.unusedSimpArgs false
set_option maxRecDepth 100000

set_option maxHeartbeats 1000000 in
theorem names_nil (w : World) : Calls Tryd.prog 18 #[.pointer none] w fun e w' => e = .returned (.slice none 0 0) ∧ w.grownBy w' none := by
  have hrg := run_range_nilMap (P := Tryd.prog) w 48 52 56 Tryd.underlying48
  have hnx : (Instr.next (.pointer (some ⟨w.heap.size, 0, none⟩)) false 0).run Tryd.prog (w.alloc (.mapIter none 0 #[] 0)) = _ := run_next_nilMap w 0 0 0 #[]
  go_enter Tryd.func18, Tryd.ntmps18
  go_wp2_with (go_at_call 26; refine (all_nil _).mono ?_; rintro e w' ⟨rfl, h⟩; replace h := h.symm; subst h)
  go_loopw [3] (fun v W => v = .slice none 0 0 ∧ W = w.alloc (.mapIter none 0 #[] 0)) (fun _ _ => 0)
  case atStart => exact ⟨rfl, rfl⟩
  case round =>
    obtain ⟨rfl, rfl⟩ := hrel
    go_wp2_with (go_at_call 28; refine (Tryd.slices_Sort_string_none none 0 _).mono ?_; rintro e w' ⟨rfl, h⟩; replace h := h.symm; subst h)
    go_ret
    exact ⟨rfl, alloc_g _ _⟩
theorem fork_nil (w : World) : Calls Tryd.prog 15 #[.pointer none] w fun e w' => e = .returned (.pointer none) ∧ w' = w := by
  go_enter Tryd.func15, Tryd.ntmps15
  go_wp2
  go_ret
  exact ⟨rfl, rfl⟩
theorem nd_perm {l l' : List Pr} (h : Nd l) (hp : l.Perm l') : Nd l' := by
  unfold Nd at *
  exact (hp.map Prod.fst).nodup_iff.1 h
theorem without_self {dn rest : List Pr} {p : Pr} (h : Nd (dn ++ rest)) (hp : p ∈ rest) : without p.1 dn = dn := by
  refine List.filter_eq_self.2 (fun q hq => ?_)
  have h1 : (dn.map Prod.fst ++ rest.map Prod.fst).Nodup := by simpa [Nd] using h
  have h2 := (List.nodup_append.1 h1).2.2
  have : q.1 ≠ p.1 := h2 q.1 (List.mem_map.2 ⟨q, hq, rfl⟩) p.1 (List.mem_map.2 ⟨p, hp, rfl⟩)
  simpa using this
set_option maxHeartbeats 4000000 in
theorem fork_at {w : World} {h b : Nat} {l : List Pr} (s : Sto w h b l) (hl : l.length ≤ 64) : Calls Tryd.prog 15 #[.pointer (some ⟨h, 0, none⟩)] w fun e w' => ∃ h2 b2, e = .returned (.pointer (some ⟨h2, 0, none⟩)) ∧ w.grownBy w' none ∧ w.heap.size ≤ b2 ∧ Sto w' h2 b2 l := by
  obtain ⟨Z, hZ⟩ : ∃ Z, padV [] = Z := ⟨_, rfl⟩
  have hpz : Z.size = 24 := by rw [← hZ]; exact padV_size (by simp)
  have b0' : (⟨#[]⟩ : ByteArray) = bs [] := rfl
  rw [padV_nil] at hZ
  have HS := hide s
  have HL := hide hl
  clear s hl
  go_enter Tryd.func15, Tryd.ntmps15
  go_upto_region 4 with (go_at_call 7; refine (new_any _).mono ?_; rintro e w1 ⟨rfl, hs, hg⟩)
  obtain ⟨h2, hh2⟩ : ∃ h2, w.heap.size + 1 = h2 := ⟨_, rfl⟩
  obtain ⟨b2, hb2⟩ : ∃ b2, w.heap.size = b2 := ⟨_, rfl⟩
  simp only [hh2]
  rw [hh2, hb2] at hs
  have s1 := HS.out.kept hg (by simp) (by simp)
  have hcell := s1.cell
  obtain ⟨w2, cnt0, hrun, hR, hg2⟩ := s1.files.range
  obtain ⟨r, hr⟩ : ∃ r, w1.heap.size = r := ⟨_, rfl⟩
  rw [hr] at hrun hR
  have HR := hide hR
  have HD := hide (hs.kept hg2 (by simp) (by simp))
  have HG := hide (grown_trans hg hg2)
  have HBB := hide (Nat.le_of_eq hb2)
  have HRB := hide (show w.heap.size ≤ r by rw [← hr]; exact hg.size)
  have HRN := hide (show b2 ≠ r by have := hs.files.lt; omega)
  have HRH := hide (show h2 ≠ r by have := hs.lt; omega)
  have HBN := hide (show b ≠ b2 by have := HS.out.files.lt; omega)
  clear hR hs hg hg2 s1 hh2 hb2 hr
  go_wp2
  go_loopw [] (fun W => ∃ rest dn cnt, Hid (Rg W b r l rest cnt) ∧ Hid ((dn ++ rest).Perm l) ∧ Hid (Sto W h2 b2 dn) ∧ Hid (w.grownBy W none)) (fun W => W.rangeLeft b r)
  case atStart => exact ⟨l, [], cnt0, HR.out, hide (by simp), HD.out, HG.out⟩
  case round =>
    obtain ⟨rest, dn, cnt, hR, hP, hD, hG⟩ := hrel
    clear hrun hcell
    rcases hR.out.next 0 with ⟨h0, hnx⟩ | ⟨p, W', cnt', hp, hnx, hR', hlt, hg', hsz, hent⟩
    · subst h0
      have HF := hide (hD.out.perm (show dn.Perm l by simpa using hP.out))
      clear hP hD hR
      go_wp2
      go_ret
      exact ⟨h2, b2, rfl, hG.out, HBB.out, HF.out⟩
    · have hn' := hR.out.fm.nms p (hR.out.sub p hp)
      have hps := padV_size (nm_len hn')
      have hp1 := padV_one p.1
      obtain ⟨t, ht⟩ : ∃ t, p.2 = t := ⟨_, rfl⟩
      have hws := without_self (nd_perm hR.out.fm.nd hP.out.symm) hp
      have hdl : dn.length ≤ 64 := by
        have h1 := hP.out.length_eq
        have h3 := HL.out
        simp at h1
        omega
      have HU := hide (fun (W : World) (f : FM W b2 dn) => f.put (Nat.lt_of_le_of_lt hdl (by unfold maxLen; decide)) hn' t)
      rw [hws] at HU
      have HPP := hide (show (((p.1, t) :: dn) ++ without p.1 rest).Perm l by
        refine List.Perm.trans ?_ hP.out
        rw [← ht]
        exact (List.perm_middle.symm).trans ((without_perm hR.out.nd hp).symm.append_left dn))
      unfold keyV fileV at hnx hent
      unfold fileV at HU
      rw [ht] at hnx hent
      generalize padV p.1 = K at hnx hent HU hps hp1
      have hsc := stores_mid W' (Z := Z) (K := K) (.cells #[.string (bs [])] 56) hpz hps hp1
      have HD1 := hide (hD.out.kept hg' (fun e => HRH.out (Option.some.inj e)) (fun e => HRN.out (Option.some.inj e)))
      have HG1 := hide (grown_own hG.out HRB.out hg')
      have HR1 := hide hR'
      have HLT := hide (show cnt' < wr.rangeLeft b r by rw [hR.out.left]; exact hlt)
      clear hR hP hD hG hR' hlt hg' hsz hn' hws hdl hp ht hp1
      go_upto_region 7 with fail
      obtain ⟨V, hV⟩ : ∃ V, (W'.alloc (.cells K 52)).alloc (.cells #[.string (bs t)] 56) = V := ⟨_, rfl⟩
      have gV : W'.grownBy V none := by rw [← hV]; exact grown_trans (alloc_g _ _) (alloc_g _ _)
      have k1 : V.heap[W'.heap.size]? = some (.cells K 52 (0, 0)) := by rw [← hV, heap_alloc_old _ _ (by simp)]; exact heap_alloc_last _ _
      have f1 : V.heap[W'.heap.size + 1]? = some (.cells #[.string (bs t)] 56 (0, 0)) := by
        rw [← hV]; have := heap_alloc_last (W'.alloc (.cells K 52)) (.cells #[.string (bs t)] 56); simpa using this
      simp only [hV]
      generalize W'.heap.size = kb at k1 f1 ⊢
      have d1 : Sto V.drew h2 b2 dn := (HD1.out.kept gV (by simp) (by simp)).kept (drew_g _) (by simp) (by simp)
      have r1 := (HR1.out.kept gV (by simp) (by simp)).kept (drew_g _) (by simp) (by simp)
      obtain ⟨w3, hup, hfm, hg3⟩ := HU.out V.drew d1.files
      have HC := hide d1.cell
      have HK := hide k1
      have HF := hide (show V.cell? ⟨kb + 1, 0, none⟩ = some (.string (bs t)) by rw [cell_of_row _ _ _ _ _ _ f1]; rfl)
      have HK3 := hide (d1.files.held (k := kb) (by exact k1) hg3)
      have HF3 := hide (show w3.cell? ⟨kb + 1, 0, none⟩ = some (.string (bs t)) by rw [cell_of_row _ _ _ _ _ _ (d1.files.held (k := kb + 1) (by exact f1) hg3)]; rfl)
      have HD3 := hide (d1.turn hg3 hfm)
      have HG3 := hide (grown_own (grown_trans HG1.out (grown_trans gV (drew_g _))) HBB.out hg3)
      have HR3 := hide (r1.kept hg3 (fun e => HBN.out (Option.some.inj e)) (fun e => HRN.out (Option.some.inj e).symm))
      clear hV gV k1 f1 d1 r1 hfm hg3 HU HD1 HG1 HR1 hsc hent hnx
      refine wp_region_held_drew (S := fun W => (W.cell? ⟨h2, 0, none⟩ = some (.map (some b2)) ∧ W.cell? ⟨kb + 1, 0, none⟩ = some (.string (bs t)) ∧ Hid (W.heap[kb]? = some (.cells K 52 (0, 0))))) (by kernel_rfl) ⟨HC.out, HF.out, hide HK.out⟩ (fun hHeld => ?_)
      (refine wpAnyH_take (i := 0) (v := ?_) rfl (by kernel_rfl) (by kernel_rfl) (by kernel_rfl) (fun _ _ _ h => h) (Or.inl ⟨by rfl, ?_⟩) (by assumption) ?_; rotate_left 1; (focus (intro w hSw; (try dsimp only at hSw); go_simp; (try (with_reducible rfl)))); (try simp only [Act.put, List.getElem_toArray, List.getElem_cons_zero, List.getElem_cons_succ, List.setIfInBounds_toArray, List.set_cons_zero, List.set_cons_succ]))
      (refine wpAnyH_take (i := 1) (v := ?_) rfl (by kernel_rfl) (by kernel_rfl) (by kernel_rfl) (fun _ _ _ h => h) (Or.inl ⟨by rfl, ?_⟩) (by assumption) ?_; rotate_left 1; (focus (intro w hSw; (try dsimp only at hSw); go_simp; (try (with_reducible rfl)))); (try simp only [Act.put, List.getElem_toArray, List.getElem_cons_zero, List.getElem_cons_succ, List.setIfInBounds_toArray, List.set_cons_zero, List.set_cons_succ]))
      (refine wpAnyH_take (i := 2) (v := ?_) rfl (by kernel_rfl) (by kernel_rfl) (by kernel_rfl) (fun _ _ _ h => h) (Or.inl ⟨by rfl, ?_⟩) (by assumption) ?_; rotate_left 1; (focus (intro w hSw; (try dsimp only at hSw); go_simp; (try (with_reducible rfl)))); (try simp only [Act.put, List.getElem_toArray, List.getElem_cons_zero, List.getElem_cons_succ, List.setIfInBounds_toArray, List.set_cons_zero, List.set_cons_succ]))
      (refine wpAnyH_take (i := 3) (v := ?_) rfl (by kernel_rfl) (by kernel_rfl) (by kernel_rfl) (fun _ _ _ h => h) (Or.inl ⟨by rfl, ?_⟩) (by assumption) ?_; rotate_left 1; (focus (intro w hSw; (try dsimp only at hSw); go_simp; (try (with_reducible rfl)))); (try simp only [Act.put, List.getElem_toArray, List.getElem_cons_zero, List.getElem_cons_succ, List.setIfInBounds_toArray, List.set_cons_zero, List.set_cons_succ]))
      (refine wpAnyH_take (i := 4) (v := .agg K) rfl (by kernel_rfl) (by kernel_rfl) (by kernel_rfl) (fun _ _ _ h => h) (yk (by rfl) _ rfl _ rfl K (fun w hSw => hSw.2.2.out) hps) (by assumption) ?_; (try simp only [Act.put, List.getElem_toArray, List.getElem_cons_zero, List.getElem_cons_succ, List.setIfInBounds_toArray, List.set_cons_zero, List.set_cons_succ]))
      (refine wpAnyH_take (i := 5) (v := ?_) rfl (by kernel_rfl) (by kernel_rfl) (by kernel_rfl) (fun _ _ _ h => h) (Or.inl ⟨by rfl, ?_⟩) (by assumption) ?_; rotate_left 1; (focus (intro w hSw; (try dsimp only at hSw); go_simp; (try (with_reducible rfl)))); (try simp only [Act.put, List.getElem_toArray, List.getElem_cons_zero, List.getElem_cons_succ, List.setIfInBounds_toArray, List.set_cons_zero, List.set_cons_succ]))
      refine ready_turn (i := 6) rfl (by kernel_rfl) (fun Q hQ => ?_)
      go_simp
      refine hQ.out _ _ (fun W => (W.cell? ⟨h2, 0, none⟩ = some (.map (some b2)) ∧ W.cell? ⟨kb + 1, 0, none⟩ = some (.string (bs t)) ∧ Hid (W.heap[kb]? = some (.cells K 52 (0, 0))))) (fun _ h => h) ⟨HD3.out.cell, HF3.out, hide HK3.out⟩ (fun hHeld => ?_)
      clear hQ Q
      (try simp only [Act.put, List.getElem_toArray, List.getElem_cons_zero, List.getElem_cons_succ, List.setIfInBounds_toArray, List.set_cons_zero, List.set_cons_succ])
      refine wpAnyH_done (by kernel_rfl) ?_ _
      go_wp2
      go_roundw
      case rel => exact ⟨_, _, _, HR3, HPP, HD3, HG3⟩
      case measure => rw [HR3.out.left]; exact HLT.out
end Go.Proofs.YtaekljpijnkjoaaDoor.St
