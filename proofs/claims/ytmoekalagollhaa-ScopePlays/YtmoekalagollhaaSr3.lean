/-
  The document's own scope: Find.
-/
import Derived.Test.YtmoekalagollhaaSr2
namespace Go.Proofs.Ytmoekalagollhaa.So
open Go.RowKit hiding Hid
open Go.Proofs.Ytmoekalagollhaa.Tx Go.Proofs.Ytmoekalagollhaa.Lx Go.Proofs.Ytmoekalagollhaa.Tr Go.Proofs.Ytmoekalagollhaa.Ty
set_option linter.unusedVariables false
set_option linter.unusedSimpArgs false
set_option maxRecDepth 100000

/- A level's rows. -/
theorem rowsQ_mem {V : Vq} {p : Value × Value × Lv1} (h : p ∈ V) : rowN p ∈ rowsQ V ∧ rowF p ∈ rowsQ V := by
  induction V with
  | nil => cases h
  | cons q V ih =>
    rcases List.mem_cons.1 h with rfl | h
    · exact ⟨.head _, .tail _ (.head _)⟩
    · exact ⟨.tail _ (.tail _ (ih h).1), .tail _ (.tail _ (ih h).2)⟩
theorem vq_at : ∀ {V : Vq} {k : Nat}, k < V.length → ∃ p, p ∈ V ∧ (fstQ V)[k]? = some p.1 ∧ (sndQ V)[k]? = some p.2.1 ∧ lev (modQ V) k = p.2.2
  | [], _, h => by cases h
  | q :: V, k, h => by
    rw [fstQ_cons, sndQ_cons]
    by_cases e : k = V.length
    · refine ⟨q, .head _, ?_, ?_, ?_⟩
      · rw [List.getElem?_append_right (by simp; omega)]; simp [e]
      · rw [List.getElem?_append_right (by simp; omega)]; simp [e]
      · rw [show modQ (q :: V) = q.2.2 :: modQ V from rfl, e, ← modQ_len, lev_top]
    · have hk : k < V.length := by simp at h; omega
      obtain ⟨p, h1, h2, h3, h4⟩ := vq_at hk
      refine ⟨p, .tail _ h1, ?_, ?_, ?_⟩
      · rw [List.getElem?_append_left (by simp; omega)]; exact h2
      · rw [List.getElem?_append_left (by simp; omega)]; exact h3
      · rw [show modQ (q :: V) = q.2.2 :: modQ V from rfl, lev_low (by rw [modQ_len]; exact hk)]; exact h4
theorem idxI_at {l : Lv1} {s : Nm} {v : Int} (h : fnd l s = some v) : ∃ i : Nat, idxI l s = i ∧ i < l.length ∧ (nC l)[i]? = some (.int .i64 v) := by
  have hi := idx_fnd l s
  unfold idxI
  cases e : idx l s with
  | none => rw [e, h] at hi; cases hi
  | some i =>
    have h2 := idx_lt e
    rw [e, h] at hi
    simp only at hi
    refine ⟨i, rfl, h2, ?_⟩
    unfold nC
    rw [List.getElem?_map]
    cases hq : l[i]? with
    | none => rw [hq] at hi; cases hi
    | some p => rw [hq] at hi; cases hi; rfl
set_option maxHeartbeats 16000000 in
theorem rfind_at {w0 w : World} {q : Nat} {M : Sx} {L : List Lc} {Rs : List Rw} {Fs : List Fk} (H : QS w0 q M L Rs Fs w) (hG : Gd M) (hM : M.length ≤ 64) (s : Nm) : Calls Try.prog 35 #[.pointer (some ⟨q, 0, none⟩), .string (bs s)] w (fun e w' => e = .returned (fndV (fndS M s)) ∧ w' = w) := by
  obtain ⟨dn, cn, df, cf, V, hV, H⟩ := H
  obtain ⟨N, hN⟩ : ∃ N, M.length = N := ⟨_, rfl⟩
  unfold QC at H
  rw [hN] at H hM
  have hVl : V.length = N := by rw [← modQ_len, hV, hN]
  have HM := hide hM
  have HC := hide H
  have HGd := hide hG
  have HV := hide hV
  have HN1 := hide hN
  have HVl := hide hVl
  have m1 : (N : Int) ≤ 64 := by omega
  clear H hG hV hN hVl
  go_enter Try.func35, Try.ntmps35
  go_wp2_with (go_at_call 37; refine (rdepth_of HC.out (by repeat (first | exact List.Mem.head _ | apply List.Mem.tail)) HM.out).mono ?_; rintro e w' ⟨rfl, hw⟩; replace hw := hw.symm; subst hw)
  go_loop [7] (fun iv => ∃ k : Nat, k ≤ N ∧ iv = .int .i64 ((k : Int) - 1) ∧ Hid (∀ j, k ≤ j → j < M.length → fnd (lev M j) s = none)) (fun iv => (intOf iv + 1).toNat)
  case atStart => exact ⟨N, Nat.le_refl _, rfl, hide (fun j h1 h2 => by rw [HN1.out] at h2; omega)⟩
  case round =>
    obtain ⟨k, hk, rfl, HN⟩ := hrel
    cases k with
    | zero =>
      have HR := hide (show fndS M s = none from fndS_no (fun j hj => HN.out j (by omega) hj))
      clear HN
      go_wp2
      refine bodyPost_ret (v := fndV none) (by simp [results, Try.results35, fndV, go_sem]) rfl ?_
      rw [HR.out]
      exact ⟨rfl, rfl⟩
    | succ k =>
      have e1 : ((k + 1 : Nat) : Int) - 1 = k := by omega
      rw [e1]
      have q0 : (0 : Int) ≤ k := by omega
      have q1 : (k : Int) < N := by omega
      have HK := hide hk
      obtain ⟨p, hp1, hp2, hp3, hp4⟩ := vq_at (V := V) (k := k) (by have := HVl.out; omega)
      rw [HV.out] at hp4
      have hgl := lev_gd HGd.out k
      rw [hp4] at hgl
      obtain ⟨g, rfl, k1, k2⟩ := own_at (HC.out.cx.row _ (.head _)) (by omega)
      obtain ⟨h, rfl, k3, k4⟩ := own_at (HC.out.cx.row _ (.tail _ (.head _))) (by omega)
      have HRn := hide (rowsQ_mem hp1).1
      have HRf := hide (rowsQ_mem hp1).2
      obtain ⟨d1, c1, hv1⟩ := own_slice (HC.out.cx.row (rowN p) (.tail _ (.tail _ (List.mem_append_left _ HRn.out))))
      obtain ⟨d2, c2, hv2⟩ := own_slice (HC.out.cx.row (rowF p) (.tail _ (.tail _ (List.mem_append_left _ HRf.out))))
      have hv1 : p.1 = .slice d1 p.2.2.length c1 := hv1
      have hv2 : p.2.1 = .slice d2 p.2.2.length c2 := hv2
      rw [hv1] at hp2
      rw [hv2] at hp3
      have HXn := hide hp2
      have HXf := hide hp3
      have HL2 := hide hgl.le
      have hl2 : (p.2.2.length : Int) ≤ 256 := by have := hgl.le; omega
      have m2 : (cn : Int) ≤ 9223372036854775807 := by unfold maxLen at k2; omega
      have m3 : (cf : Int) ≤ 9223372036854775807 := by unfold maxLen at k4; omega
      unfold rowN at HRn
      unfold rowF at HRf
      rw [hv1] at HRn
      rw [hv2] at HRf
      cases hf : fnd (lev M k) s with
      | none =>
        have HN2 := hide (show ∀ j, k ≤ j → j < M.length → fnd (lev M j) s = none from fun j h1 h2 => by
          by_cases e : j = k
          · rw [e]; exact hf
          · exact HN.out j (by omega) h2)
        rw [hp4] at hf
        obtain ⟨I, hI⟩ : ∃ I, idxI p.2.2 s = I := ⟨_, rfl⟩
        have hI0 : ¬ 0 ≤ I := by rw [← hI]; intro h; exact idxI_fnd.1 h hf
        have HI := hide hI
        clear hf hI HN e1 hp1 hp2 hp3 hp4 hgl hv1 hv2 k1 k2 k3 k4 hk
        go_wp2_with (first | (refine at_load 72 rfl ?_; refine wl_load_c rfl 72 _ rfl tcTSS rfl HC.out.cx (by repeat (first | exact List.Mem.head _ | apply List.Mem.tail)) (by repeat (first | exact GetS.cons _ (GetS.nil _) | apply GetS.skip)) ?_) | (refine at_load 54 rfl ?_; refine wl_cell rfl 54 _ rfl tcTS rfl (HC.out.cell (ad := ⟨g, 0, none⟩) (by repeat (first | exact List.Mem.head _ | apply List.Mem.tail)) HXn.out) ?_) | (go_at_call 60; refine (index_at HC.out (l := p.2.2) (List.Mem.tail _ (List.Mem.tail _ (List.mem_append_left _ HRn.out))) HL2.out s).mono ?_; rw [HI.out]; rintro e w' ⟨rfl, hw⟩; replace hw := hw.symm; subst hw))
        exact ⟨⟨k, by have := HK.out; omega, by go_num, HN2⟩, by simp [intOf] <;> omega⟩
      | some v =>
        have HR := hide (show fndS M s = some (v, k) from fndS_at (by have := HK.out; have := HN1.out; omega) (fun j h1 h2 => HN.out j (by omega) h2) hf)
        rw [hp4] at hf
        obtain ⟨i, hI, hil, hix⟩ := idxI_at hf
        have HI := hide hI
        have HXi := hide hix
        obtain ⟨g2, rfl, k5, k6⟩ := own_at (HC.out.cx.row _ (.tail _ (.tail _ (List.mem_append_left _ HRf.out)))) (by omega)
        have i0 : (i : Int) < p.2.2.length := by omega
        have m4 : (c2 : Int) ≤ 9223372036854775807 := by unfold maxLen at k6; omega
        clear hf hI hix hil HN e1 hp1 hp2 hp3 hp4 hgl hv1 hv2 k1 k2 k3 k4 k5 k6 hk
        go_wp2_with (first | (refine at_load 72 rfl ?_; refine wl_load_c rfl 72 _ rfl tcTSS rfl HC.out.cx (by repeat (first | exact List.Mem.head _ | apply List.Mem.tail)) (by repeat (first | exact GetS.cons _ (GetS.nil _) | apply GetS.skip)) ?_) | (refine at_load 75 rfl ?_; refine wl_load_c rfl 75 _ rfl tcTII rfl HC.out.cx (by repeat (first | exact List.Mem.head _ | apply List.Mem.tail)) (by repeat (first | exact GetS.cons _ (GetS.nil _) | apply GetS.skip)) ?_) | (refine at_load 54 rfl ?_; refine wl_cell rfl 54 _ rfl tcTS rfl (HC.out.cell (ad := ⟨g, 0, none⟩) (by repeat (first | exact List.Mem.head _ | apply List.Mem.tail)) HXn.out) ?_) | (refine at_load 57 rfl ?_; refine wl_cell rfl 57 _ rfl tcTI rfl (HC.out.cell (ad := ⟨h, 0, none⟩) (by repeat (first | exact List.Mem.head _ | apply List.Mem.tail)) HXf.out) ?_) | (refine at_load 3 rfl ?_; refine wl_cell rfl 3 _ rfl tcINT rfl (HC.out.cell (ad := ⟨g2, 0, none⟩) (List.Mem.tail _ (List.Mem.tail _ (List.mem_append_left _ HRf.out))) HXi.out) ?_) | (go_at_call 60; refine (index_at HC.out (l := p.2.2) (List.Mem.tail _ (List.Mem.tail _ (List.mem_append_left _ HRn.out))) HL2.out s).mono ?_; rw [HI.out]; rintro e w' ⟨rfl, hw⟩; replace hw := hw.symm; subst hw))
        refine bodyPost_ret (v := fndV (some (v, k))) (by simp [results, Try.results35, fndV, go_sem]) rfl ?_
        rw [HR.out]
        exact ⟨rfl, rfl⟩
end Go.Proofs.Ytmoekalagollhaa.So
