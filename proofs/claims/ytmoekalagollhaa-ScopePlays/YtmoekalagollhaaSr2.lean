/-
  The document's own scope: index, Declare, Find, Here.
-/
import Derived.Test.YtmoekalagollhaaSr1
namespace Go.Proofs.Ytmoekalagollhaa.So
open Go.RowKit hiding Hid
open Go.Proofs.Ytmoekalagollhaa.Tx Go.Proofs.Ytmoekalagollhaa.Lx Go.Proofs.Ytmoekalagollhaa.Tr Go.Proofs.Ytmoekalagollhaa.Ty
set_option linter.unusedVariables false
set_option linter.unusedSimpArgs false
set_option maxRecDepth 100000

def idxI (l : Lv1) (s : Nm) : Int := match idx l s with
  | none => -1
  | some i => i
set_option maxHeartbeats 4000000 in
theorem index_at {w0 w : World} {L : List Lc} {Rs : List Rw} {Fs : List Fk} (H : Cf w0 (fun _ => False) none L Rs Fs w) {d : Option Addr} {l : Lv1} {c : Nat} (hm : ⟨.slice d l.length c, 9, 1, l.length, nmC l⟩ ∈ Rs) (hl : l.length ≤ 256) (s : Nm) : Calls Try.prog 60 #[.slice d l.length c, .string (bs s)] w (fun e w' => e = .returned (.int .i64 (idxI l s)) ∧ w' = w) := by
  have HC := hide H
  have HRm := hide hm
  have k0 : (l.length : Int) ≤ 256 := by omega
  clear H hm
  go_enter Try.func60, Try.ntmps60
  go_wp2
  go_loop [5] (fun iv => ∃ i : Nat, i ≤ l.length ∧ iv = .int .i64 i ∧ Hid (∀ j p, j < i → l[j]? = some p → p.1 ≠ s)) (fun iv => l.length - (intOf iv).toNat)
  case atStart => exact ⟨0, Nat.zero_le _, rfl, hide (fun j p hj => by omega)⟩
  case round =>
    obtain ⟨i, hi, rfl, HN⟩ := hrel
    by_cases hlt : i < l.length
    · have q1 : (i : Int) < l.length := by omega
      obtain ⟨p, hp⟩ : ∃ p, l[i]? = some p := ⟨l[i], List.getElem?_eq_getElem hlt⟩
      obtain ⟨g1, rfl, hd1, hd2⟩ := own_at (HC.out.cx.row _ HRm.out) (by omega)
      have HXn := hide (show (nmC l)[i]? = some (.string (bs p.1)) by unfold nmC; rw [List.getElem?_map, hp]; rfl)
      have HP := hide hp
      by_cases e : p.1 = s
      · have e0 : ((bs p.1).toList == (bs s).toList) = true := by rw [e]; simp
        have HR := hide (show idxI l s = i by unfold idxI; rw [idx_at HN.out hp e])
        clear hp hd1 hd2 e HN
        go_wp2_with (refine at_load 9 rfl ?_; refine wl_cell rfl 9 _ rfl tcSTR rfl (HC.out.cell (ad := ⟨g1, 0, none⟩) HRm.out HXn.out) ?_)
        go_ret
        rw [HR.out]
        exact ⟨rfl, rfl⟩
      · have e0 : ((bs p.1).toList == (bs s).toList) = false := by rw [bs_toList, bs_toList]; simpa using e
        have HN2 := hide (show ∀ j p, j < i + 1 → l[j]? = some p → p.1 ≠ s from fun j p' hj h1 => by
          by_cases e1 : j = i
          · subst e1; rw [hp] at h1; cases h1; exact e
          · exact HN.out j p' (by omega) h1)
        clear hp hd1 hd2 e HN
        go_wp2_with (refine at_load 9 rfl ?_; refine wl_cell rfl 9 _ rfl tcSTR rfl (HC.out.cell (ad := ⟨g1, 0, none⟩) HRm.out HXn.out) ?_)
        exact ⟨⟨i + 1, by omega, by go_num, HN2⟩, by simp [intOf]; omega⟩
    · obtain rfl : i = l.length := by omega
      have HR := hide (show idxI l s = -1 by unfold idxI; rw [idx_none (fun p hp => by
        obtain ⟨j, hj⟩ := List.mem_iff_getElem?.1 hp
        exact HN.out j p (List.getElem?_eq_some_iff.1 hj).1 hj)])
      go_wp2
      go_ret
      rw [HR.out]
      exact ⟨rfl, rfl⟩
theorem idxI_fnd {l : Lv1} {s : Nm} : (0 ≤ idxI l s) ↔ fnd l s ≠ none := by
  have h := idx_fnd l s
  unfold idxI
  cases hi : idx l s with
  | none => rw [hi] at h; simp at h; rw [h]; simp
  | some i =>
    rw [hi] at h
    have h2 := idx_lt hi
    simp only at h
    rw [List.getElem?_eq_getElem h2] at h
    rw [h]
    simp
theorem rdepth_of {w0 w : World} {q n : Nat} {dn df : Option Addr} {cn cf : Nat} {L : List Lc} {Rs : List Rw} {Fs : List Fk} (H : Cf w0 (fun _ => False) none L Rs Fs w) (hm : ⟨q, [.slice dn n cn, .slice df n cf], 77⟩ ∈ L) (hM : n ≤ 64) : Calls Try.prog 37 #[.pointer (some ⟨q, 0, none⟩)] w (fun e w' => e = .returned (.int .i64 ((n : Int) - 1)) ∧ w' = w) := by
  have hc := hide (cf_cell H hm (GetS.cons _ (GetS.nil _)))
  have k1 : (n : Int) ≤ 64 := by omega
  clear H
  go_enter Try.func37, Try.ntmps37
  go_wp2_with (refine at_load 72 rfl ?_; refine wl_cell rfl 72 _ rfl tcTSS rfl hc.out ?_)
  go_ret
  exact ⟨rfl, rfl⟩
theorem rdec_end {w0 W : World} {q g h cn cf m N : Nat} {d8 d9 : Option Addr} {c8 c9 : Nat} {v1 v2 : Value} {l : Lv1} {V : Vq} {L : List Lc} {Rs : List Rw} {Fs : List Fk} {s : Nm} {v : Int} (hm : V.length = m) (hN : N = m + 1) (hNN : (l :: modQ V).length = N)
    (H : Cf w0 (fun _ => False) none (⟨q, [.slice (some ⟨g, 0, none⟩) N cn, .slice (some ⟨h, 0, none⟩) N cf], 77⟩ :: L) (⟨.slice (some ⟨g, 0, none⟩) N cn, 54, 1, N, (fstQ ((v1, v2, l) :: V)).take m ++ [.slice d8 (l.length + 1) c8] ++ (fstQ ((v1, v2, l) :: V)).drop (m + 1)⟩ :: ⟨.slice (some ⟨h, 0, none⟩) N cf, 57, 1, N, (sndQ ((v1, v2, l) :: V)).take m ++ [.slice d9 (l.length + 1) c9] ++ (sndQ ((v1, v2, l) :: V)).drop (m + 1)⟩ :: ⟨.slice d8 (l.length + 1) c8, 9, 1, l.length + 1, nmC l ++ [.string (bs s)]⟩ :: ⟨.slice d9 (l.length + 1) c9, 3, 1, l.length + 1, nC l ++ [.int .i64 v]⟩ :: (rowsQ V ++ Rs)) Fs W) :
    QC w0 q (some ⟨g, 0, none⟩) cn (some ⟨h, 0, none⟩) cf ((l ++ [(s, v)]) :: modQ V).length ((.slice d8 (l.length + 1) c8, .slice d9 (l.length + 1) c9, l ++ [(s, v)]) :: V) L Rs Fs W := by
  have e0 : ((l ++ [(s, v)]) :: modQ V).length = N := hNN
  rw [e0]
  have e1 := set_last (V.map (fun p => p.1)) v1 (Value.slice d8 (l.length + 1) c8)
  have e2 := set_last (V.map (fun p => p.2.1)) v2 (Value.slice d9 (l.length + 1) c9)
  rw [List.length_map, hm] at e1 e2
  have e3 : rowN (Value.slice d8 (l.length + 1) c8, Value.slice d9 (l.length + 1) c9, l ++ [(s, v)]) = ⟨.slice d8 (l.length + 1) c8, 9, 1, l.length + 1, nmC l ++ [.string (bs s)]⟩ := by unfold rowN nmC; simp
  have e4 : rowF (Value.slice d8 (l.length + 1) c8, Value.slice d9 (l.length + 1) c9, l ++ [(s, v)]) = ⟨.slice d9 (l.length + 1) c9, 3, 1, l.length + 1, nC l ++ [.int .i64 v]⟩ := by unfold rowF nC; simp
  unfold QC
  rw [show rowsQ ((Value.slice d8 (l.length + 1) c8, Value.slice d9 (l.length + 1) c9, l ++ [(s, v)]) :: V) = rowN (Value.slice d8 (l.length + 1) c8, Value.slice d9 (l.length + 1) c9, l ++ [(s, v)]) :: rowF (Value.slice d8 (l.length + 1) c8, Value.slice d9 (l.length + 1) c9, l ++ [(s, v)]) :: rowsQ V from rfl, e3, e4]
  rw [show fstQ ((Value.slice d8 (l.length + 1) c8, Value.slice d9 (l.length + 1) c9, l ++ [(s, v)]) :: V) = (Value.slice d8 (l.length + 1) c8 :: V.map (fun p => p.1)).reverse from rfl, show sndQ ((Value.slice d8 (l.length + 1) c8, Value.slice d9 (l.length + 1) c9, l ++ [(s, v)]) :: V) = (Value.slice d9 (l.length + 1) c9 :: V.map (fun p => p.2.1)).reverse from rfl, ← e1, ← e2]
  exact H
theorem rhere_end {w0 W : World} {q : Nat} {d9 : Option Addr} {c9 : Nat} {l : Lv1} {M : Sx} {L : List Lc} {Rs : List Rw} {Fs : List Fk} {r1 r2 : Rw} {R3 : List Rw} {p : Lc}
    (hq : ∀ W, Cf w0 (fun _ => False) none (p :: L) (r1 :: r2 :: (R3 ++ (⟨.slice d9 l.length c9, 9, 1, l.length, nmC l⟩ :: Rs))) Fs W → QS w0 q M L (⟨.slice d9 l.length c9, 9, 1, l.length, nmC l⟩ :: Rs) Fs W)
    (H : Cf w0 (fun _ => False) none (p :: L) (⟨.slice d9 (0 + l.length) c9, 9, 1, 0 + l.length, [] ++ nmC l⟩ :: r1 :: r2 :: (R3 ++ Rs)) Fs W) : ∃ d' c', Ending.returned (.slice d9 l.length c9) = .returned (.slice d' l.length c') ∧ QS w0 q M L (⟨.slice d' l.length c', 9, 1, l.length, nmC l⟩ :: Rs) Fs W := by
  rw [Nat.zero_add, List.nil_append] at H
  refine ⟨d9, c9, rfl, hq _ ?_⟩
  exact H.permR (List.perm_middle (a := (⟨.slice d9 l.length c9, 9, 1, l.length, nmC l⟩ : Rw)) (l₁ := r1 :: r2 :: R3) (l₂ := Rs)).symm
set_option maxHeartbeats 32000000 in
theorem rdeclare_at {w0 w : World} {q : Nat} {l : Lv1} {r : Sx} {L : List Lc} {Rs : List Rw} {Fs : List Fk} (H : QS w0 q (l :: r) L Rs Fs w) (hG : Gd (l :: r)) (hM : r.length < 64) (s : Nm) (hs : s.length ≤ 5000) (v : Int) : Calls Try.prog 32 #[.pointer (some ⟨q, 0, none⟩), .string (bs s), .int .i64 v] w (fun e w' => e = .returned (.int .i64 (decE l s)) ∧ QS w0 q (decL l s v :: r) L Rs Fs w') := by
  have hl := (gd_cons.1 hG).1.le
  obtain ⟨dn, cn, df, cf, V, hV, H⟩ := H
  match V, hV, H with
  | [], hV, H => cases hV
  | (vn, vf, l') :: V, hV, H =>
  injection hV with hl' hr'
  simp only at hl'
  have hl' := hl'.symm
  subst hl'
  have hr' : modQ V = r := hr'
  subst hr'
  obtain ⟨d1, c1, hv⟩ := own_slice (H.cx.row (rowN (vn, vf, l)) (.tail _ (.tail _ (.head _))))
  have hv : vn = .slice d1 l.length c1 := hv
  subst hv
  obtain ⟨d2, c2, hv⟩ := own_slice (H.cx.row (rowF (.slice d1 l.length c1, vf, l)) (.tail _ (.tail _ (.tail _ (.head _)))))
  have hv : vf = .slice d2 l.length c2 := hv
  subst hv
  obtain ⟨m, hm⟩ : ∃ m, V.length = m := ⟨_, rfl⟩
  obtain ⟨N, hN⟩ : ∃ N, (l :: modQ V).length = N := ⟨_, rfl⟩
  have hNm : N = m + 1 := by rw [← hN, List.length_cons, modQ_len, hm]
  unfold QC at H
  rw [hN] at H
  rw [modQ_len, hm] at hM
  obtain ⟨g, rfl, k1, k2⟩ := own_at (H.cx.row _ (.head _)) (by omega)
  obtain ⟨h, rfl, k3, k4⟩ := own_at (H.cx.row _ (.tail _ (.head _))) (by omega)
  have HXn := hide (show (fstQ ((Value.slice d1 l.length c1, Value.slice d2 l.length c2, l) :: V))[m]? = some (.slice d1 l.length c1) from by rw [fstQ_cons, List.getElem?_append_right (by simp; omega)]; simp [hm])
  have HXf := hide (show (sndQ ((Value.slice d1 l.length c1, Value.slice d2 l.length c2, l) :: V))[m]? = some (.slice d2 l.length c2) from by rw [sndQ_cons, List.getElem?_append_right (by simp; omega)]; simp [hm])
  have HXa := hide (show m + 1 ≤ (fstQ ((Value.slice d1 l.length c1, Value.slice d2 l.length c2, l) :: V)).length from by simp; omega)
  have HXb := hide (show m + 1 ≤ (sndQ ((Value.slice d1 l.length c1, Value.slice d2 l.length c2, l) :: V)).length from by simp; omega)
  have HQS := hide (fun (Rs : List Rw) W (hh : Cf w0 (fun _ => False) none (⟨q, [.slice (some ⟨g, 0, none⟩) N cn, .slice (some ⟨h, 0, none⟩) N cf], 77⟩ :: L) (⟨.slice (some ⟨g, 0, none⟩) N cn, 54, 1, N, fstQ ((Value.slice d1 l.length c1, Value.slice d2 l.length c2, l) :: V)⟩ :: ⟨.slice (some ⟨h, 0, none⟩) N cf, 57, 1, N, sndQ ((Value.slice d1 l.length c1, Value.slice d2 l.length c2, l) :: V)⟩ :: (rowsQ ((Value.slice d1 l.length c1, Value.slice d2 l.length c2, l) :: V) ++ Rs)) Fs W) => show QS w0 q (l :: modQ V) L Rs Fs W from ⟨some ⟨g, 0, none⟩, cn, some ⟨h, 0, none⟩, cf, (Value.slice d1 l.length c1, Value.slice d2 l.length c2, l) :: V, rfl, by rw [hN]; exact hh⟩)
  have HM := hide (show N ≤ 64 by omega)
  have HDm := hide (show ((N : Nat) : Int) - 1 = (m : Int) by omega)
  have HNm := hide hNm
  have HNN := hide hN
  have Hm := hide hm
  have HL2 := hide hl
  have m0 : (m : Int) < N := by omega
  have m1 : (N : Int) ≤ 64 := by omega
  have m2 : (cn : Int) ≤ 9223372036854775807 := by unfold maxLen at k2; omega
  have m3 : (cf : Int) ≤ 9223372036854775807 := by unfold maxLen at k4; omega
  have HC := hide H
  have HL9 := hide (show l.length ≤ 900000 by omega)
  have hl2 : (l.length : Int) ≤ 256 := by omega
  cases hw : wordB s
  · have he : decE l s = 150 := by unfold decE; rw [if_pos hw]
    have hl : decL l s v = l := by unfold decL; rw [he]; rfl
    rw [he, hl]
    have HW := hide hw
    clear H hG hM he hl hw hN hm hNm k1 k2 k3 k4
    go_enter Try.func32, Try.ntmps32
    go_wp2_with (first | (go_at_call 37; refine (rdepth_of HC.out (by repeat (first | exact List.Mem.head _ | apply List.Mem.tail)) HM.out).mono ?_; rw [HDm.out]; rintro e w' ⟨rfl, hw⟩; replace hw := hw.symm; subst hw) | (go_at_call 59; refine (word_any s _ (by omega)).mono ?_; rw [HW.out]; rintro e w' ⟨rfl, hw⟩; replace hw := hw.symm; subst hw))
    go_ret
    exact ⟨rfl, HQS.out _ _ HC.out⟩
  have HW := hide hw
  by_cases hf : fnd l s = none
  case neg =>
    have he : decE l s = 151 := by unfold decE; rw [if_neg (by rw [hw]; simp), if_pos hf]
    have hl : decL l s v = l := by unfold decL; rw [he]; rfl
    rw [he, hl]
    obtain ⟨I, hI⟩ : ∃ I, idxI l s = I := ⟨_, rfl⟩
    have hI0 : 0 ≤ I := by rw [← hI]; exact idxI_fnd.2 hf
    have HI := hide hI
    clear H hG hM he hl hw hN hm hNm k1 k2 k3 k4 hf hI
    go_enter Try.func32, Try.ntmps32
    go_wp2_with (first | (go_at_call 37; refine (rdepth_of HC.out (by repeat (first | exact List.Mem.head _ | apply List.Mem.tail)) HM.out).mono ?_; rw [HDm.out]; rintro e w' ⟨rfl, hw⟩; replace hw := hw.symm; subst hw) | (go_at_call 59; refine (word_any s _ (by omega)).mono ?_; rw [HW.out]; rintro e w' ⟨rfl, hw⟩; replace hw := hw.symm; subst hw) | (refine at_load 72 rfl ?_; refine wl_load_c rfl 72 _ rfl tcTSS rfl HC.out.cx (by repeat (first | exact List.Mem.head _ | apply List.Mem.tail)) (by repeat (first | exact GetS.cons _ (GetS.nil _) | apply GetS.skip)) ?_) | (refine at_load 54 rfl ?_; refine wl_cell rfl 54 _ rfl tcTS rfl (HC.out.cell (ad := ⟨g, 0, none⟩) (by repeat (first | exact List.Mem.head _ | apply List.Mem.tail)) HXn.out) ?_) | (go_at_call 60; refine (index_at HC.out (l := l) (by repeat (first | exact List.Mem.head _ | apply List.Mem.tail)) HL2.out s).mono ?_; rw [HI.out]; rintro e w' ⟨rfl, hw⟩; replace hw := hw.symm; subst hw))
    go_ret
    exact ⟨rfl, HQS.out _ _ HC.out⟩
  obtain ⟨I, hI⟩ : ∃ I, idxI l s = I := ⟨_, rfl⟩
  have hI0 : ¬ 0 ≤ I := by rw [← hI]; intro h; exact idxI_fnd.1 h hf
  have HI := hide hI
  by_cases h256 : l.length = 256
  · have he : decE l s = 3 := by unfold decE; rw [if_neg (by rw [hw]; simp), if_neg (by rw [hf]; simp), if_pos h256]
    have hl : decL l s v = l := by unfold decL; rw [he]; rfl
    rw [he, hl]
    have k9 : ((l.length : Int) == 256) = true := by simp; omega
    clear H hG hM he hl hw hN hm hNm k1 k2 k3 k4 hf hI h256
    go_enter Try.func32, Try.ntmps32
    go_wp2_with (first | (go_at_call 37; refine (rdepth_of HC.out (by repeat (first | exact List.Mem.head _ | apply List.Mem.tail)) HM.out).mono ?_; rw [HDm.out]; rintro e w' ⟨rfl, hw⟩; replace hw := hw.symm; subst hw) | (go_at_call 59; refine (word_any s _ (by omega)).mono ?_; rw [HW.out]; rintro e w' ⟨rfl, hw⟩; replace hw := hw.symm; subst hw) | (refine at_load 72 rfl ?_; refine wl_load_c rfl 72 _ rfl tcTSS rfl HC.out.cx (by repeat (first | exact List.Mem.head _ | apply List.Mem.tail)) (by repeat (first | exact GetS.cons _ (GetS.nil _) | apply GetS.skip)) ?_) | (refine at_load 54 rfl ?_; refine wl_cell rfl 54 _ rfl tcTS rfl (HC.out.cell (ad := ⟨g, 0, none⟩) (by repeat (first | exact List.Mem.head _ | apply List.Mem.tail)) HXn.out) ?_) | (go_at_call 60; refine (index_at HC.out (l := l) (by repeat (first | exact List.Mem.head _ | apply List.Mem.tail)) HL2.out s).mono ?_; rw [HI.out]; rintro e w' ⟨rfl, hw⟩; replace hw := hw.symm; subst hw))
    go_ret
    exact ⟨rfl, HQS.out _ _ HC.out⟩
  · have he : decE l s = 0 := by unfold decE; rw [if_neg (by rw [hw]; simp), if_neg (by rw [hf]; simp), if_neg h256]
    have hl : decL l s v = l ++ [(s, v)] := by unfold decL; rw [he]; rfl
    rw [he, hl]
    have k9 : ((l.length : Int) == 256) = false := by simp; omega
    clear H hG hM he hl hw hN hm hNm k1 k2 k3 k4 hf hI h256
    go_enter Try.func32, Try.ntmps32
    go_upto_region 10 with (first | (go_at_call 37; refine (rdepth_of HC.out (by repeat (first | exact List.Mem.head _ | apply List.Mem.tail)) HM.out).mono ?_; rw [HDm.out]; rintro e w' ⟨rfl, hw⟩; replace hw := hw.symm; subst hw) | (go_at_call 59; refine (word_any s _ (by omega)).mono ?_; rw [HW.out]; rintro e w' ⟨rfl, hw⟩; replace hw := hw.symm; subst hw) | (refine at_load 72 rfl ?_; refine wl_load_c rfl 72 _ rfl tcTSS rfl HC.out.cx (by repeat (first | exact List.Mem.head _ | apply List.Mem.tail)) (by repeat (first | exact GetS.cons _ (GetS.nil _) | apply GetS.skip)) ?_) | (refine at_load 54 rfl ?_; refine wl_cell rfl 54 _ rfl tcTS rfl (HC.out.cell (ad := ⟨g, 0, none⟩) (by repeat (first | exact List.Mem.head _ | apply List.Mem.tail)) HXn.out) ?_) | (go_at_call 60; refine (index_at HC.out (l := l) (by repeat (first | exact List.Mem.head _ | apply List.Mem.tail)) HL2.out s).mono ?_; rw [HI.out]; rintro e w' ⟨rfl, hw⟩; replace hw := hw.symm; subst hw))
    replace HC := hide (HC.out.g (d1_g _)); refine wp_region_inN (fun W => W.cell? ⟨q, 0, none⟩ = some (.slice (some ⟨g, 0, none⟩) N cn) ∧ W.cell? ⟨q, 1, none⟩ = some (.slice (some ⟨h, 0, none⟩) N cf) ∧ W.cell? ⟨g, m, none⟩ = some (.slice d1 l.length c1) ∧ W.cell? ⟨h, m, none⟩ = some (.slice d2 l.length c2)) [31, 33] (Pn.of [(1, 0), (1, 1), (1, 2), (1, 3), (1, 4), (1, 5), (1, 6), (1, 7), (1, 8), (0, 9), (1, 10), (1, 11), (1, 12), (1, 13), (1, 14), (1, 15), (1, 16), (1, 17), (1, 20), (1, 21), (1, 22), (1, 23), (1, 24), (1, 25), (1, 26), (1, 27)] (.fork 18 (Pn.of [] (.fork 19 (Pn.of [(2, 28), (2, 29), (1, 30), (2, 31), (0, 32), (2, 33)] .nil) 28 (Pn.of [(2, 19), (2, 29), (1, 30), (2, 31), (0, 32), (2, 33)] .nil))) 28 (Pn.of [(2, 18), (2, 19), (2, 29), (1, 30), (2, 31), (0, 32), (2, 33)] .nil))) (by kernel_rfl) (by kernel_rfl) (by kernel_rfl) (by kernel_rfl) (fun _ _ d _ _ h => by cases d <;> exact h) ⟨cf_cell HC.out (by repeat (first | exact List.Mem.head _ | apply List.Mem.tail)) (by repeat (first | exact GetS.cons _ (GetS.nil _) | apply GetS.skip)), cf_cell HC.out (by repeat (first | exact List.Mem.head _ | apply List.Mem.tail)) (by repeat (first | exact GetS.cons _ (GetS.nil _) | apply GetS.skip)), HC.out.cell (ad := ⟨g, 0, none⟩) (by repeat (first | exact List.Mem.head _ | apply List.Mem.tail)) HXn.out, HC.out.cell (ad := ⟨h, 0, none⟩) (by repeat (first | exact List.Mem.head _ | apply List.Mem.tail)) HXf.out⟩ ?_
    (refine inN_read (v := ?_) rfl (Or.inl ⟨by rfl, ?_⟩) ?_; rotate_left 1; (focus (intro W hSW; clear hSW; go_simp; (try (with_reducible rfl)))); (try simp only [Act.put, List.getElem_toArray, List.getElem_cons_zero, List.getElem_cons_succ, List.setIfInBounds_toArray, List.set_cons_zero, List.set_cons_succ]))
    (refine inN_read (v := ?_) rfl (Or.inl ⟨by rfl, ?_⟩) ?_; rotate_left 1; (focus (intro W hSW; clear hSW; go_simp; (try (with_reducible rfl)))); (try simp only [Act.put, List.getElem_toArray, List.getElem_cons_zero, List.getElem_cons_succ, List.setIfInBounds_toArray, List.set_cons_zero, List.set_cons_succ]))
    (refine inN_read (v := ?_) rfl (Or.inl ⟨by rfl, ?_⟩) ?_; rotate_left 1; (focus (intro W hSW; clear hSW; go_simp; (try (with_reducible rfl)))); (try simp only [Act.put, List.getElem_toArray, List.getElem_cons_zero, List.getElem_cons_succ, List.setIfInBounds_toArray, List.set_cons_zero, List.set_cons_succ]))
    (refine inN_read rfl (yl_cell tcTSS rfl rfl rfl (fun W hS => hS.1)) ?_; (try simp only [Act.put, List.getElem_toArray, List.getElem_cons_zero, List.getElem_cons_succ, List.setIfInBounds_toArray, List.set_cons_zero, List.set_cons_succ]))
    (refine inN_read (v := ?_) rfl (Or.inl ⟨by rfl, ?_⟩) ?_; rotate_left 1; (focus (intro W hSW; clear hSW; go_simp; (try (with_reducible rfl)))); (try simp only [Act.put, List.getElem_toArray, List.getElem_cons_zero, List.getElem_cons_succ, List.setIfInBounds_toArray, List.set_cons_zero, List.set_cons_succ]))
    (refine inN_read (v := ?_) rfl (Or.inl ⟨by rfl, ?_⟩) ?_; rotate_left 1; (focus (intro W hSW; clear hSW; go_simp; (try (with_reducible rfl)))); (try simp only [Act.put, List.getElem_toArray, List.getElem_cons_zero, List.getElem_cons_succ, List.setIfInBounds_toArray, List.set_cons_zero, List.set_cons_succ]))
    (refine inN_read (v := ?_) rfl (Or.inl ⟨by rfl, ?_⟩) ?_; rotate_left 1; (focus (intro W hSW; clear hSW; go_simp; (try (with_reducible rfl)))); (try simp only [Act.put, List.getElem_toArray, List.getElem_cons_zero, List.getElem_cons_succ, List.setIfInBounds_toArray, List.set_cons_zero, List.set_cons_succ]))
    (refine inN_read (v := ?_) rfl (Or.inl ⟨by rfl, ?_⟩) ?_; rotate_left 1; (focus (intro W hSW; clear hSW; go_simp; (try (with_reducible rfl)))); (try simp only [Act.put, List.getElem_toArray, List.getElem_cons_zero, List.getElem_cons_succ, List.setIfInBounds_toArray, List.set_cons_zero, List.set_cons_succ]))
    (refine inN_read rfl (yl_cell tcTII rfl rfl rfl (fun W hS => hS.2.1)) ?_; (try simp only [Act.put, List.getElem_toArray, List.getElem_cons_zero, List.getElem_cons_succ, List.setIfInBounds_toArray, List.set_cons_zero, List.set_cons_succ]))
    (refine inN_pure (v := ?_) rfl (Or.inl ⟨by rfl, ?_⟩) ?_; rotate_left 1; (focus (intro W hSW; clear hSW; go_simp; (try (with_reducible rfl)))); (try simp only [Act.put, List.getElem_toArray, List.getElem_cons_zero, List.getElem_cons_succ, List.setIfInBounds_toArray, List.set_cons_zero, List.set_cons_succ]))
    (refine inN_read (v := ?_) rfl (Or.inl ⟨by rfl, ?_⟩) ?_; rotate_left 1; (focus (intro W hSW; clear hSW; go_simp; (try (with_reducible rfl)))); (try simp only [Act.put, List.getElem_toArray, List.getElem_cons_zero, List.getElem_cons_succ, List.setIfInBounds_toArray, List.set_cons_zero, List.set_cons_succ]))
    (refine inN_read (v := ?_) rfl (Or.inl ⟨by rfl, ?_⟩) ?_; rotate_left 1; (focus (intro W hSW; clear hSW; go_simp; (try (with_reducible rfl)))); (try simp only [Act.put, List.getElem_toArray, List.getElem_cons_zero, List.getElem_cons_succ, List.setIfInBounds_toArray, List.set_cons_zero, List.set_cons_succ]))
    (refine inN_read (v := ?_) rfl (Or.inl ⟨by rfl, ?_⟩) ?_; rotate_left 1; (focus (intro W hSW; clear hSW; go_simp; (try (with_reducible rfl)))); (try simp only [Act.put, List.getElem_toArray, List.getElem_cons_zero, List.getElem_cons_succ, List.setIfInBounds_toArray, List.set_cons_zero, List.set_cons_succ]))
    (refine inN_read rfl (yl_cell tcTSS rfl rfl rfl (fun W hS => hS.1)) ?_; (try simp only [Act.put, List.getElem_toArray, List.getElem_cons_zero, List.getElem_cons_succ, List.setIfInBounds_toArray, List.set_cons_zero, List.set_cons_succ]))
    (refine inN_read (v := ?_) rfl (Or.inl ⟨by rfl, ?_⟩) ?_; rotate_left 1; (focus (intro W hSW; clear hSW; go_simp; (try (with_reducible rfl)))); (try simp only [Act.put, List.getElem_toArray, List.getElem_cons_zero, List.getElem_cons_succ, List.setIfInBounds_toArray, List.set_cons_zero, List.set_cons_succ]))
    (refine inN_read (v := ?_) rfl (Or.inl ⟨by rfl, ?_⟩) ?_; rotate_left 1; (focus (intro W hSW; clear hSW; go_simp; (try (with_reducible rfl)))); (try simp only [Act.put, List.getElem_toArray, List.getElem_cons_zero, List.getElem_cons_succ, List.setIfInBounds_toArray, List.set_cons_zero, List.set_cons_succ]))
    (refine inN_read rfl (yl_cell tcTS rfl rfl rfl (fun W hS => hS.2.2.1)) ?_; (try simp only [Act.put, List.getElem_toArray, List.getElem_cons_zero, List.getElem_cons_succ, List.setIfInBounds_toArray, List.set_cons_zero, List.set_cons_succ]))
    (refine inN_read (v := ?_) rfl (Or.inl ⟨by rfl, ?_⟩) ?_; rotate_left 1; (focus (intro W hSW; clear hSW; go_simp; (try (with_reducible rfl)))); (try simp only [Act.put, List.getElem_toArray, List.getElem_cons_zero, List.getElem_cons_succ, List.setIfInBounds_toArray, List.set_cons_zero, List.set_cons_succ]))
    (refine inN_read (v := ?_) rfl (Or.inl ⟨by rfl, ?_⟩) ?_; rotate_left 1; (focus (intro W hSW; clear hSW; go_simp; (try (with_reducible rfl)))); (try simp only [Act.put, List.getElem_toArray, List.getElem_cons_zero, List.getElem_cons_succ, List.setIfInBounds_toArray, List.set_cons_zero, List.set_cons_succ]))
    (refine inN_read (v := ?_) rfl (Or.inl ⟨by rfl, ?_⟩) ?_; rotate_left 1; (focus (intro W hSW; clear hSW; go_simp; (try (with_reducible rfl)))); (try simp only [Act.put, List.getElem_toArray, List.getElem_cons_zero, List.getElem_cons_succ, List.setIfInBounds_toArray, List.set_cons_zero, List.set_cons_succ]))
    (refine inN_read (v := ?_) rfl (Or.inl ⟨by rfl, ?_⟩) ?_; rotate_left 1; (focus (intro W hSW; clear hSW; go_simp; (try (with_reducible rfl)))); (try simp only [Act.put, List.getElem_toArray, List.getElem_cons_zero, List.getElem_cons_succ, List.setIfInBounds_toArray, List.set_cons_zero, List.set_cons_succ]))
    (refine inN_read rfl (yl_cell tcTII rfl rfl rfl (fun W hS => hS.2.1)) ?_; (try simp only [Act.put, List.getElem_toArray, List.getElem_cons_zero, List.getElem_cons_succ, List.setIfInBounds_toArray, List.set_cons_zero, List.set_cons_succ]))
    (refine inN_read (v := ?_) rfl (Or.inl ⟨by rfl, ?_⟩) ?_; rotate_left 1; (focus (intro W hSW; clear hSW; go_simp; (try (with_reducible rfl)))); (try simp only [Act.put, List.getElem_toArray, List.getElem_cons_zero, List.getElem_cons_succ, List.setIfInBounds_toArray, List.set_cons_zero, List.set_cons_succ]))
    (refine inN_read (v := ?_) rfl (Or.inl ⟨by rfl, ?_⟩) ?_; rotate_left 1; (focus (intro W hSW; clear hSW; go_simp; (try (with_reducible rfl)))); (try simp only [Act.put, List.getElem_toArray, List.getElem_cons_zero, List.getElem_cons_succ, List.setIfInBounds_toArray, List.set_cons_zero, List.set_cons_succ]))
    (refine inN_read rfl (yl_cell tcTI rfl rfl rfl (fun W hS => hS.2.2.2)) ?_; (try simp only [Act.put, List.getElem_toArray, List.getElem_cons_zero, List.getElem_cons_succ, List.setIfInBounds_toArray, List.set_cons_zero, List.set_cons_succ]))
    (refine inN_read (v := ?_) rfl (Or.inl ⟨by rfl, ?_⟩) ?_; rotate_left 1; (focus (intro W hSW; clear hSW; go_simp; (try (with_reducible rfl)))); (try simp only [Act.put, List.getElem_toArray, List.getElem_cons_zero, List.getElem_cons_succ, List.setIfInBounds_toArray, List.set_cons_zero, List.set_cons_succ]))
    refine inN_fork rfl rfl rfl rfl (fun K' hK => ?_) (fun K' hK => ?_)
    · refine cfo_bl 54 1 _ rfl 9 [.string (bs s)] HC.out (by kernel_rfl) ?_; intro bb w' hn hg hc; clear hg hn; (replace HC := hide hc; clear hc); refine hK _ _ (.inr (fun _ => ⟨cf_cell HC.out (by repeat (first | exact List.Mem.head _ | apply List.Mem.tail)) (by repeat (first | exact GetS.cons _ (GetS.nil _) | apply GetS.skip)), cf_cell HC.out (by repeat (first | exact List.Mem.head _ | apply List.Mem.tail)) (by repeat (first | exact GetS.cons _ (GetS.nil _) | apply GetS.skip)), HC.out.cell (ad := ⟨g, 0, none⟩) (by repeat (first | exact List.Mem.head _ | apply List.Mem.tail)) HXn.out, HC.out.cell (ad := ⟨h, 0, none⟩) (by repeat (first | exact List.Mem.head _ | apply List.Mem.tail)) HXf.out⟩)) ?_; clear hK K'; (try simp only [Act.put, List.getElem_toArray, List.getElem_cons_zero, List.getElem_cons_succ, List.setIfInBounds_toArray, List.set_cons_zero, List.set_cons_succ])
      refine inN_fork rfl rfl rfl rfl (fun K' hK => ?_) (fun K' hK => ?_)
      · (first | refine cfo_ap (v := .slice d1 l.length c1) _ _ rfl Try.underlying54 infoSTR (by decide) (by decide) rfl rfl HC.out.up2 rfl rfl HL9.out ?_ | refine cfo_ap (v := .slice d1 l.length c1) _ _ rfl Try.underlying54 infoSTR (by decide) (by decide) rfl rfl HC.out.swapL.up2 rfl rfl HL9.out ?_); intro d8 c8 w' hg hc; clear hg; (replace HC := hide hc; clear hc); replace HC := hide HC.out.down2; refine hK _ _ (.inr (fun _ => ⟨cf_cell HC.out (by repeat (first | exact List.Mem.head _ | apply List.Mem.tail)) (by repeat (first | exact GetS.cons _ (GetS.nil _) | apply GetS.skip)), cf_cell HC.out (by repeat (first | exact List.Mem.head _ | apply List.Mem.tail)) (by repeat (first | exact GetS.cons _ (GetS.nil _) | apply GetS.skip)), HC.out.cell (ad := ⟨g, 0, none⟩) (by repeat (first | exact List.Mem.head _ | apply List.Mem.tail)) HXn.out, HC.out.cell (ad := ⟨h, 0, none⟩) (by repeat (first | exact List.Mem.head _ | apply List.Mem.tail)) HXf.out⟩)) ?_; clear hK K'; (try simp only [Act.put, List.getElem_toArray, List.getElem_cons_zero, List.getElem_cons_succ, List.setIfInBounds_toArray, List.set_cons_zero, List.set_cons_succ])
        refine inN_act rfl rfl (fun K' hK => ?_); refine cfo_bl 57 1 _ rfl 3 [.int .i64 v] HC.out (by kernel_rfl) ?_; intro bi w' hn hg hc; clear hg hn; (replace HC := hide hc; clear hc); refine hK _ _ (.inr (fun _ => ⟨cf_cell HC.out (by repeat (first | exact List.Mem.head _ | apply List.Mem.tail)) (by repeat (first | exact GetS.cons _ (GetS.nil _) | apply GetS.skip)), cf_cell HC.out (by repeat (first | exact List.Mem.head _ | apply List.Mem.tail)) (by repeat (first | exact GetS.cons _ (GetS.nil _) | apply GetS.skip)), HC.out.cell (ad := ⟨g, 0, none⟩) (by repeat (first | exact List.Mem.head _ | apply List.Mem.tail)) HXn.out, HC.out.cell (ad := ⟨h, 0, none⟩) (by repeat (first | exact List.Mem.head _ | apply List.Mem.tail)) HXf.out⟩)) ?_; clear hK K'; (try simp only [Act.put, List.getElem_toArray, List.getElem_cons_zero, List.getElem_cons_succ, List.setIfInBounds_toArray, List.set_cons_zero, List.set_cons_succ])
        refine inN_act rfl rfl (fun K' hK => ?_); (first | refine cfo_ap (v := .slice d2 l.length c2) _ _ rfl Try.underlying57 infoINT (by decide) (by decide) rfl rfl HC.out.up3 rfl rfl HL9.out ?_ | refine cfo_ap (v := .slice d2 l.length c2) _ _ rfl Try.underlying57 infoINT (by decide) (by decide) rfl rfl HC.out.swapL.up3 rfl rfl HL9.out ?_); intro d9 c9 w' hg hc; clear hg; (replace HC := hide hc; clear hc); replace HC := hide HC.out.down3; refine hK _ _ (.inr (fun _ => ⟨cf_cell HC.out (by repeat (first | exact List.Mem.head _ | apply List.Mem.tail)) (by repeat (first | exact GetS.cons _ (GetS.nil _) | apply GetS.skip)), cf_cell HC.out (by repeat (first | exact List.Mem.head _ | apply List.Mem.tail)) (by repeat (first | exact GetS.cons _ (GetS.nil _) | apply GetS.skip)), HC.out.cell (ad := ⟨g, 0, none⟩) (by repeat (first | exact List.Mem.head _ | apply List.Mem.tail)) HXn.out, HC.out.cell (ad := ⟨h, 0, none⟩) (by repeat (first | exact List.Mem.head _ | apply List.Mem.tail)) HXf.out⟩)) ?_; clear hK K'; (try simp only [Act.put, List.getElem_toArray, List.getElem_cons_zero, List.getElem_cons_succ, List.setIfInBounds_toArray, List.set_cons_zero, List.set_cons_succ])
        (refine inN_read (v := ?_) rfl (Or.inl ⟨by rfl, ?_⟩) ?_; rotate_left 1; (focus (intro W hSW; clear hSW; go_simp; (try (with_reducible rfl)))); (try simp only [Act.put, List.getElem_toArray, List.getElem_cons_zero, List.getElem_cons_succ, List.setIfInBounds_toArray, List.set_cons_zero, List.set_cons_succ]))
        refine inN_act rfl rfl (fun K' hK => ?_); refine cfo_rowset (us := [.slice d8 (l.length + 1) c8]) 54 _ _ rfl rfl rfl tcTS.sz rfl HC.out HXa.out ?_; intro w' hg hc; clear hg; (replace HC := hide hc; clear hc); refine hK _ _ (.inl rfl) ?_; clear hK K'; (try simp only [Act.put, List.getElem_toArray, List.getElem_cons_zero, List.getElem_cons_succ, List.setIfInBounds_toArray, List.set_cons_zero, List.set_cons_succ])
        (refine inN_pure (v := ?_) rfl (Or.inl ⟨by rfl, ?_⟩) ?_; rotate_left 1; (focus (intro W hSW; clear hSW; go_simp; (try (with_reducible rfl)))); (try simp only [Act.put, List.getElem_toArray, List.getElem_cons_zero, List.getElem_cons_succ, List.setIfInBounds_toArray, List.set_cons_zero, List.set_cons_succ]))
        refine inN_act rfl rfl (fun K' hK => ?_); refine cfo_rowset (us := [.slice d9 (l.length + 1) c9]) 57 _ _ rfl rfl rfl tcTI.sz rfl HC.out.swapR HXb.out ?_; intro w' hg hc; clear hg; (replace HC := hide hc; clear hc); replace HC := hide HC.out.swapR; refine hK _ _ (.inl rfl) ?_; clear hK K'; (try simp only [Act.put, List.getElem_toArray, List.getElem_cons_zero, List.getElem_cons_succ, List.setIfInBounds_toArray, List.set_cons_zero, List.set_cons_succ])
        refine inN_end ?_; (go_wp2; go_ret; refine ⟨rfl, some ⟨g, 0, none⟩, cn, some ⟨h, 0, none⟩, cf, (.slice d8 (l.length + 1) c8, .slice d9 (l.length + 1) c9, l ++ [(s, v)]) :: V, rfl, ?_⟩; exact rdec_end Hm.out HNm.out HNN.out HC.out)
      · refine cfo_bl 57 1 _ rfl 3 [.int .i64 v] HC.out (by kernel_rfl) ?_; intro bi w' hn hg hc; clear hg hn; (replace HC := hide hc; clear hc); refine hK _ _ (.inr (fun _ => ⟨cf_cell HC.out (by repeat (first | exact List.Mem.head _ | apply List.Mem.tail)) (by repeat (first | exact GetS.cons _ (GetS.nil _) | apply GetS.skip)), cf_cell HC.out (by repeat (first | exact List.Mem.head _ | apply List.Mem.tail)) (by repeat (first | exact GetS.cons _ (GetS.nil _) | apply GetS.skip)), HC.out.cell (ad := ⟨g, 0, none⟩) (by repeat (first | exact List.Mem.head _ | apply List.Mem.tail)) HXn.out, HC.out.cell (ad := ⟨h, 0, none⟩) (by repeat (first | exact List.Mem.head _ | apply List.Mem.tail)) HXf.out⟩)) ?_; clear hK K'; (try simp only [Act.put, List.getElem_toArray, List.getElem_cons_zero, List.getElem_cons_succ, List.setIfInBounds_toArray, List.set_cons_zero, List.set_cons_succ])
        refine inN_act rfl rfl (fun K' hK => ?_); (first | refine cfo_ap (v := .slice d1 l.length c1) _ _ rfl Try.underlying54 infoSTR (by decide) (by decide) rfl rfl HC.out.up2 rfl rfl HL9.out ?_ | refine cfo_ap (v := .slice d1 l.length c1) _ _ rfl Try.underlying54 infoSTR (by decide) (by decide) rfl rfl HC.out.swapL.up2 rfl rfl HL9.out ?_); intro d8 c8 w' hg hc; clear hg; (replace HC := hide hc; clear hc); replace HC := hide HC.out.down2; refine hK _ _ (.inr (fun _ => ⟨cf_cell HC.out (by repeat (first | exact List.Mem.head _ | apply List.Mem.tail)) (by repeat (first | exact GetS.cons _ (GetS.nil _) | apply GetS.skip)), cf_cell HC.out (by repeat (first | exact List.Mem.head _ | apply List.Mem.tail)) (by repeat (first | exact GetS.cons _ (GetS.nil _) | apply GetS.skip)), HC.out.cell (ad := ⟨g, 0, none⟩) (by repeat (first | exact List.Mem.head _ | apply List.Mem.tail)) HXn.out, HC.out.cell (ad := ⟨h, 0, none⟩) (by repeat (first | exact List.Mem.head _ | apply List.Mem.tail)) HXf.out⟩)) ?_; clear hK K'; (try simp only [Act.put, List.getElem_toArray, List.getElem_cons_zero, List.getElem_cons_succ, List.setIfInBounds_toArray, List.set_cons_zero, List.set_cons_succ])
        refine inN_act rfl rfl (fun K' hK => ?_); (first | refine cfo_ap (v := .slice d2 l.length c2) _ _ rfl Try.underlying57 infoINT (by decide) (by decide) rfl rfl HC.out.up3 rfl rfl HL9.out ?_ | refine cfo_ap (v := .slice d2 l.length c2) _ _ rfl Try.underlying57 infoINT (by decide) (by decide) rfl rfl HC.out.swapL.up3 rfl rfl HL9.out ?_); intro d9 c9 w' hg hc; clear hg; (replace HC := hide hc; clear hc); replace HC := hide HC.out.down3; refine hK _ _ (.inr (fun _ => ⟨cf_cell HC.out (by repeat (first | exact List.Mem.head _ | apply List.Mem.tail)) (by repeat (first | exact GetS.cons _ (GetS.nil _) | apply GetS.skip)), cf_cell HC.out (by repeat (first | exact List.Mem.head _ | apply List.Mem.tail)) (by repeat (first | exact GetS.cons _ (GetS.nil _) | apply GetS.skip)), HC.out.cell (ad := ⟨g, 0, none⟩) (by repeat (first | exact List.Mem.head _ | apply List.Mem.tail)) HXn.out, HC.out.cell (ad := ⟨h, 0, none⟩) (by repeat (first | exact List.Mem.head _ | apply List.Mem.tail)) HXf.out⟩)) ?_; clear hK K'; (try simp only [Act.put, List.getElem_toArray, List.getElem_cons_zero, List.getElem_cons_succ, List.setIfInBounds_toArray, List.set_cons_zero, List.set_cons_succ])
        (refine inN_read (v := ?_) rfl (Or.inl ⟨by rfl, ?_⟩) ?_; rotate_left 1; (focus (intro W hSW; clear hSW; go_simp; (try (with_reducible rfl)))); (try simp only [Act.put, List.getElem_toArray, List.getElem_cons_zero, List.getElem_cons_succ, List.setIfInBounds_toArray, List.set_cons_zero, List.set_cons_succ]))
        refine inN_act rfl rfl (fun K' hK => ?_); refine cfo_rowset (us := [.slice d8 (l.length + 1) c8]) 54 _ _ rfl rfl rfl tcTS.sz rfl HC.out HXa.out ?_; intro w' hg hc; clear hg; (replace HC := hide hc; clear hc); refine hK _ _ (.inl rfl) ?_; clear hK K'; (try simp only [Act.put, List.getElem_toArray, List.getElem_cons_zero, List.getElem_cons_succ, List.setIfInBounds_toArray, List.set_cons_zero, List.set_cons_succ])
        (refine inN_pure (v := ?_) rfl (Or.inl ⟨by rfl, ?_⟩) ?_; rotate_left 1; (focus (intro W hSW; clear hSW; go_simp; (try (with_reducible rfl)))); (try simp only [Act.put, List.getElem_toArray, List.getElem_cons_zero, List.getElem_cons_succ, List.setIfInBounds_toArray, List.set_cons_zero, List.set_cons_succ]))
        refine inN_act rfl rfl (fun K' hK => ?_); refine cfo_rowset (us := [.slice d9 (l.length + 1) c9]) 57 _ _ rfl rfl rfl tcTI.sz rfl HC.out.swapR HXb.out ?_; intro w' hg hc; clear hg; (replace HC := hide hc; clear hc); replace HC := hide HC.out.swapR; refine hK _ _ (.inl rfl) ?_; clear hK K'; (try simp only [Act.put, List.getElem_toArray, List.getElem_cons_zero, List.getElem_cons_succ, List.setIfInBounds_toArray, List.set_cons_zero, List.set_cons_succ])
        refine inN_end ?_; (go_wp2; go_ret; refine ⟨rfl, some ⟨g, 0, none⟩, cn, some ⟨h, 0, none⟩, cf, (.slice d8 (l.length + 1) c8, .slice d9 (l.length + 1) c9, l ++ [(s, v)]) :: V, rfl, ?_⟩; exact rdec_end Hm.out HNm.out HNN.out HC.out)
    · refine cfo_bl 57 1 _ rfl 3 [.int .i64 v] HC.out (by kernel_rfl) ?_; intro bi w' hn hg hc; clear hg hn; (replace HC := hide hc; clear hc); refine hK _ _ (.inr (fun _ => ⟨cf_cell HC.out (by repeat (first | exact List.Mem.head _ | apply List.Mem.tail)) (by repeat (first | exact GetS.cons _ (GetS.nil _) | apply GetS.skip)), cf_cell HC.out (by repeat (first | exact List.Mem.head _ | apply List.Mem.tail)) (by repeat (first | exact GetS.cons _ (GetS.nil _) | apply GetS.skip)), HC.out.cell (ad := ⟨g, 0, none⟩) (by repeat (first | exact List.Mem.head _ | apply List.Mem.tail)) HXn.out, HC.out.cell (ad := ⟨h, 0, none⟩) (by repeat (first | exact List.Mem.head _ | apply List.Mem.tail)) HXf.out⟩)) ?_; clear hK K'; (try simp only [Act.put, List.getElem_toArray, List.getElem_cons_zero, List.getElem_cons_succ, List.setIfInBounds_toArray, List.set_cons_zero, List.set_cons_succ])
      refine inN_act rfl rfl (fun K' hK => ?_); refine cfo_bl 54 1 _ rfl 9 [.string (bs s)] HC.out (by kernel_rfl) ?_; intro bb w' hn hg hc; clear hg hn; (replace HC := hide hc; clear hc); refine hK _ _ (.inr (fun _ => ⟨cf_cell HC.out (by repeat (first | exact List.Mem.head _ | apply List.Mem.tail)) (by repeat (first | exact GetS.cons _ (GetS.nil _) | apply GetS.skip)), cf_cell HC.out (by repeat (first | exact List.Mem.head _ | apply List.Mem.tail)) (by repeat (first | exact GetS.cons _ (GetS.nil _) | apply GetS.skip)), HC.out.cell (ad := ⟨g, 0, none⟩) (by repeat (first | exact List.Mem.head _ | apply List.Mem.tail)) HXn.out, HC.out.cell (ad := ⟨h, 0, none⟩) (by repeat (first | exact List.Mem.head _ | apply List.Mem.tail)) HXf.out⟩)) ?_; clear hK K'; (try simp only [Act.put, List.getElem_toArray, List.getElem_cons_zero, List.getElem_cons_succ, List.setIfInBounds_toArray, List.set_cons_zero, List.set_cons_succ])
      refine inN_act rfl rfl (fun K' hK => ?_); (first | refine cfo_ap (v := .slice d1 l.length c1) _ _ rfl Try.underlying54 infoSTR (by decide) (by decide) rfl rfl HC.out.up2 rfl rfl HL9.out ?_ | refine cfo_ap (v := .slice d1 l.length c1) _ _ rfl Try.underlying54 infoSTR (by decide) (by decide) rfl rfl HC.out.swapL.up2 rfl rfl HL9.out ?_); intro d8 c8 w' hg hc; clear hg; (replace HC := hide hc; clear hc); replace HC := hide HC.out.down2; refine hK _ _ (.inr (fun _ => ⟨cf_cell HC.out (by repeat (first | exact List.Mem.head _ | apply List.Mem.tail)) (by repeat (first | exact GetS.cons _ (GetS.nil _) | apply GetS.skip)), cf_cell HC.out (by repeat (first | exact List.Mem.head _ | apply List.Mem.tail)) (by repeat (first | exact GetS.cons _ (GetS.nil _) | apply GetS.skip)), HC.out.cell (ad := ⟨g, 0, none⟩) (by repeat (first | exact List.Mem.head _ | apply List.Mem.tail)) HXn.out, HC.out.cell (ad := ⟨h, 0, none⟩) (by repeat (first | exact List.Mem.head _ | apply List.Mem.tail)) HXf.out⟩)) ?_; clear hK K'; (try simp only [Act.put, List.getElem_toArray, List.getElem_cons_zero, List.getElem_cons_succ, List.setIfInBounds_toArray, List.set_cons_zero, List.set_cons_succ])
      refine inN_act rfl rfl (fun K' hK => ?_); (first | refine cfo_ap (v := .slice d2 l.length c2) _ _ rfl Try.underlying57 infoINT (by decide) (by decide) rfl rfl HC.out.up3 rfl rfl HL9.out ?_ | refine cfo_ap (v := .slice d2 l.length c2) _ _ rfl Try.underlying57 infoINT (by decide) (by decide) rfl rfl HC.out.swapL.up3 rfl rfl HL9.out ?_); intro d9 c9 w' hg hc; clear hg; (replace HC := hide hc; clear hc); replace HC := hide HC.out.down3; refine hK _ _ (.inr (fun _ => ⟨cf_cell HC.out (by repeat (first | exact List.Mem.head _ | apply List.Mem.tail)) (by repeat (first | exact GetS.cons _ (GetS.nil _) | apply GetS.skip)), cf_cell HC.out (by repeat (first | exact List.Mem.head _ | apply List.Mem.tail)) (by repeat (first | exact GetS.cons _ (GetS.nil _) | apply GetS.skip)), HC.out.cell (ad := ⟨g, 0, none⟩) (by repeat (first | exact List.Mem.head _ | apply List.Mem.tail)) HXn.out, HC.out.cell (ad := ⟨h, 0, none⟩) (by repeat (first | exact List.Mem.head _ | apply List.Mem.tail)) HXf.out⟩)) ?_; clear hK K'; (try simp only [Act.put, List.getElem_toArray, List.getElem_cons_zero, List.getElem_cons_succ, List.setIfInBounds_toArray, List.set_cons_zero, List.set_cons_succ])
      (refine inN_read (v := ?_) rfl (Or.inl ⟨by rfl, ?_⟩) ?_; rotate_left 1; (focus (intro W hSW; clear hSW; go_simp; (try (with_reducible rfl)))); (try simp only [Act.put, List.getElem_toArray, List.getElem_cons_zero, List.getElem_cons_succ, List.setIfInBounds_toArray, List.set_cons_zero, List.set_cons_succ]))
      refine inN_act rfl rfl (fun K' hK => ?_); refine cfo_rowset (us := [.slice d8 (l.length + 1) c8]) 54 _ _ rfl rfl rfl tcTS.sz rfl HC.out HXa.out ?_; intro w' hg hc; clear hg; (replace HC := hide hc; clear hc); refine hK _ _ (.inl rfl) ?_; clear hK K'; (try simp only [Act.put, List.getElem_toArray, List.getElem_cons_zero, List.getElem_cons_succ, List.setIfInBounds_toArray, List.set_cons_zero, List.set_cons_succ])
      (refine inN_pure (v := ?_) rfl (Or.inl ⟨by rfl, ?_⟩) ?_; rotate_left 1; (focus (intro W hSW; clear hSW; go_simp; (try (with_reducible rfl)))); (try simp only [Act.put, List.getElem_toArray, List.getElem_cons_zero, List.getElem_cons_succ, List.setIfInBounds_toArray, List.set_cons_zero, List.set_cons_succ]))
      refine inN_act rfl rfl (fun K' hK => ?_); refine cfo_rowset (us := [.slice d9 (l.length + 1) c9]) 57 _ _ rfl rfl rfl tcTI.sz rfl HC.out.swapR HXb.out ?_; intro w' hg hc; clear hg; (replace HC := hide hc; clear hc); replace HC := hide HC.out.swapR; refine hK _ _ (.inl rfl) ?_; clear hK K'; (try simp only [Act.put, List.getElem_toArray, List.getElem_cons_zero, List.getElem_cons_succ, List.setIfInBounds_toArray, List.set_cons_zero, List.set_cons_succ])
      refine inN_end ?_; (go_wp2; go_ret; refine ⟨rfl, some ⟨g, 0, none⟩, cn, some ⟨h, 0, none⟩, cf, (.slice d8 (l.length + 1) c8, .slice d9 (l.length + 1) c9, l ++ [(s, v)]) :: V, rfl, ?_⟩; exact rdec_end Hm.out HNm.out HNN.out HC.out)
set_option maxHeartbeats 8000000 in
theorem rhere_at {w0 w : World} {q : Nat} {l : Lv1} {r : Sx} {L : List Lc} {Rs : List Rw} {Fs : List Fk} (H : QS w0 q (l :: r) L Rs Fs w) (hl : l.length ≤ 256) (hM : r.length < 64) : Calls Try.prog 40 #[.pointer (some ⟨q, 0, none⟩)] w (fun e w' => ∃ d' c', e = .returned (.slice d' l.length c') ∧ QS w0 q (l :: r) L (⟨.slice d' l.length c', 9, 1, l.length, nmC l⟩ :: Rs) Fs w') := by
  obtain ⟨dn, cn, df, cf, V, hV, H⟩ := H
  match V, hV, H with
  | [], hV, H => cases hV
  | (vn, vf, l') :: V, hV, H =>
  injection hV with hl' hr'
  simp only at hl'
  have hl' := hl'.symm
  subst hl'
  have hr' : modQ V = r := hr'
  subst hr'
  obtain ⟨d1, c1, hv⟩ := own_slice (H.cx.row (rowN (vn, vf, l)) (.tail _ (.tail _ (.head _))))
  have hv : vn = .slice d1 l.length c1 := hv
  subst hv
  obtain ⟨d2, c2, hv⟩ := own_slice (H.cx.row (rowF (.slice d1 l.length c1, vf, l)) (.tail _ (.tail _ (.tail _ (.head _)))))
  have hv : vf = .slice d2 l.length c2 := hv
  subst hv
  obtain ⟨m, hm⟩ : ∃ m, V.length = m := ⟨_, rfl⟩
  obtain ⟨N, hN⟩ : ∃ N, (l :: modQ V).length = N := ⟨_, rfl⟩
  have hNm : N = m + 1 := by rw [← hN, List.length_cons, modQ_len, hm]
  unfold QC at H
  rw [hN] at H
  rw [modQ_len, hm] at hM
  obtain ⟨g, rfl, k1, k2⟩ := own_at (H.cx.row _ (.head _)) (by omega)
  obtain ⟨h, rfl, k3, k4⟩ := own_at (H.cx.row _ (.tail _ (.head _))) (by omega)
  have HXn := hide (show (fstQ ((Value.slice d1 l.length c1, Value.slice d2 l.length c2, l) :: V))[m]? = some (.slice d1 l.length c1) from by rw [fstQ_cons, List.getElem?_append_right (by simp; omega)]; simp [hm])
  have HXf := hide (show (sndQ ((Value.slice d1 l.length c1, Value.slice d2 l.length c2, l) :: V))[m]? = some (.slice d2 l.length c2) from by rw [sndQ_cons, List.getElem?_append_right (by simp; omega)]; simp [hm])
  have HXa := hide (show m + 1 ≤ (fstQ ((Value.slice d1 l.length c1, Value.slice d2 l.length c2, l) :: V)).length from by simp; omega)
  have HXb := hide (show m + 1 ≤ (sndQ ((Value.slice d1 l.length c1, Value.slice d2 l.length c2, l) :: V)).length from by simp; omega)
  have HQS := hide (fun (Rs : List Rw) W (hh : Cf w0 (fun _ => False) none (⟨q, [.slice (some ⟨g, 0, none⟩) N cn, .slice (some ⟨h, 0, none⟩) N cf], 77⟩ :: L) (⟨.slice (some ⟨g, 0, none⟩) N cn, 54, 1, N, fstQ ((Value.slice d1 l.length c1, Value.slice d2 l.length c2, l) :: V)⟩ :: ⟨.slice (some ⟨h, 0, none⟩) N cf, 57, 1, N, sndQ ((Value.slice d1 l.length c1, Value.slice d2 l.length c2, l) :: V)⟩ :: (rowsQ ((Value.slice d1 l.length c1, Value.slice d2 l.length c2, l) :: V) ++ Rs)) Fs W) => show QS w0 q (l :: modQ V) L Rs Fs W from ⟨some ⟨g, 0, none⟩, cn, some ⟨h, 0, none⟩, cf, (Value.slice d1 l.length c1, Value.slice d2 l.length c2, l) :: V, rfl, by rw [hN]; exact hh⟩)
  have HM := hide (show N ≤ 64 by omega)
  have HDm := hide (show ((N : Nat) : Int) - 1 = (m : Int) by omega)
  have HNm := hide hNm
  have HNN := hide hN
  have Hm := hide hm
  have HL2 := hide hl
  have m0 : (m : Int) < N := by omega
  have m1 : (N : Int) ≤ 64 := by omega
  have m2 : (cn : Int) ≤ 9223372036854775807 := by unfold maxLen at k2; omega
  have m3 : (cf : Int) ≤ 9223372036854775807 := by unfold maxLen at k4; omega
  have HC := hide H
  have HNn := hide (show 0 + l.length ≤ 900000 by omega)
  clear H hM hN hm hNm k1 k2 k3 k4
  go_enter Try.func40, Try.ntmps40
  go_upto_region 3 with (fail)
  replace HC := hide (HC.out.g (d1_g _)); refine wp_region_inN (fun W => W.cell? ⟨q, 0, none⟩ = some (.slice (some ⟨g, 0, none⟩) N cn) ∧ W.cell? ⟨g, m, none⟩ = some (.slice d1 l.length c1)) [10] (Pn.of [(1, 1), (1, 2), (1, 3), (1, 4), (1, 5)] (.fork 0 (Pn.of [(2, 6), (1, 7), (1, 8), (2, 9), (0, 10)] .nil) 6 (Pn.of [(1, 7), (1, 8), (2, 0), (2, 9), (0, 10)] .nil))) (by kernel_rfl) (by kernel_rfl) (by kernel_rfl) (by kernel_rfl) (fun _ _ d _ _ h => by cases d <;> exact h) ⟨cf_cell HC.out (by repeat (first | exact List.Mem.head _ | apply List.Mem.tail)) (by repeat (first | exact GetS.cons _ (GetS.nil _) | apply GetS.skip)), HC.out.cell (ad := ⟨g, 0, none⟩) (by repeat (first | exact List.Mem.head _ | apply List.Mem.tail)) HXn.out⟩ ?_
  (refine inN_read (v := ?_) rfl (Or.inl ⟨by rfl, ?_⟩) ?_; rotate_left 1; (focus (intro W hSW; clear hSW; go_simp; (try (with_reducible rfl)))); (try simp only [Act.put, List.getElem_toArray, List.getElem_cons_zero, List.getElem_cons_succ, List.setIfInBounds_toArray, List.set_cons_zero, List.set_cons_succ]))
  (refine inN_read (v := ?_) rfl (Or.inl ⟨by rfl, ?_⟩) ?_; rotate_left 1; (focus (intro W hSW; clear hSW; go_simp; (try (with_reducible rfl)))); (try simp only [Act.put, List.getElem_toArray, List.getElem_cons_zero, List.getElem_cons_succ, List.setIfInBounds_toArray, List.set_cons_zero, List.set_cons_succ]))
  (refine inN_read (v := ?_) rfl (Or.inl ⟨by rfl, ?_⟩) ?_; rotate_left 1; (focus (intro W hSW; clear hSW; go_simp; (try (with_reducible rfl)))); (try simp only [Act.put, List.getElem_toArray, List.getElem_cons_zero, List.getElem_cons_succ, List.setIfInBounds_toArray, List.set_cons_zero, List.set_cons_succ]))
  (refine inN_read rfl (yl_cell tcTSS rfl rfl rfl (fun W hS => hS.1)) ?_; (try simp only [Act.put, List.getElem_toArray, List.getElem_cons_zero, List.getElem_cons_succ, List.setIfInBounds_toArray, List.set_cons_zero, List.set_cons_succ]))
  (refine inN_read (v := ?_) rfl (Or.inl ⟨by rfl, ?_⟩) ?_; rotate_left 1; (focus (intro W hSW; clear hSW; go_simp; (try (with_reducible rfl)))); (try simp only [Act.put, List.getElem_toArray, List.getElem_cons_zero, List.getElem_cons_succ, List.setIfInBounds_toArray, List.set_cons_zero, List.set_cons_succ]))
  refine inN_fork rfl rfl rfl rfl (fun K' hK => ?_) (fun K' hK => ?_)
  · refine cfo_bs0 54 rfl Try.underlying54 (k := 1) (by kernel_rfl) HC.out ?_; intro bb w' hg hc; clear hg; (replace HC := hide hc; clear hc); refine hK _ _ (.inr (fun _ => ⟨cf_cell HC.out (by repeat (first | exact List.Mem.head _ | apply List.Mem.tail)) (by repeat (first | exact GetS.cons _ (GetS.nil _) | apply GetS.skip)), HC.out.cell (ad := ⟨g, 0, none⟩) (by repeat (first | exact List.Mem.head _ | apply List.Mem.tail)) HXn.out⟩)) ?_; clear hK K'; (try simp only [Act.put, List.getElem_toArray, List.getElem_cons_zero, List.getElem_cons_succ, List.setIfInBounds_toArray, List.set_cons_zero, List.set_cons_succ])
    refine inN_act rfl rfl (fun K' hK => ?_); go_simp; refine (rdepth_of HC.out (by repeat (first | exact List.Mem.head _ | apply List.Mem.tail)) HM.out).mono ?_; rw [HDm.out]; rintro e w1 ⟨rfl, hw⟩; replace hw := hw.symm; subst hw; go_simp; refine hK _ _ (.inr (fun _ => ⟨cf_cell HC.out (by repeat (first | exact List.Mem.head _ | apply List.Mem.tail)) (by repeat (first | exact GetS.cons _ (GetS.nil _) | apply GetS.skip)), HC.out.cell (ad := ⟨g, 0, none⟩) (by repeat (first | exact List.Mem.head _ | apply List.Mem.tail)) HXn.out⟩)) ?_; clear hK K'; (try simp only [Act.put, List.getElem_toArray, List.getElem_cons_zero, List.getElem_cons_succ, List.setIfInBounds_toArray, List.set_cons_zero, List.set_cons_succ])
    (refine inN_read (v := ?_) rfl (Or.inl ⟨by rfl, ?_⟩) ?_; rotate_left 1; (focus (intro W hSW; clear hSW; go_simp; (try (with_reducible rfl)))); (try simp only [Act.put, List.getElem_toArray, List.getElem_cons_zero, List.getElem_cons_succ, List.setIfInBounds_toArray, List.set_cons_zero, List.set_cons_succ]))
    (refine inN_read rfl (yl_cell tcTS rfl rfl rfl (fun W hS => hS.2)) ?_; (try simp only [Act.put, List.getElem_toArray, List.getElem_cons_zero, List.getElem_cons_succ, List.setIfInBounds_toArray, List.set_cons_zero, List.set_cons_succ]))
    refine inN_act rfl rfl (fun K' hK => ?_); refine cfo_apr (v := .slice (some ⟨bb, 0, none⟩) 0 0) _ _ rfl Try.underlying54 infoSTR (by decide) rfl rfl HC.out (by repeat (first | exact List.Mem.head _ | apply List.Mem.tail)) (nm_one l) HNn.out ?_; intro d9 c9 w' hg hc; clear hg; (replace HC := hide hc; clear hc); refine hK _ _ (.inr (fun _ => ⟨cf_cell HC.out (by repeat (first | exact List.Mem.head _ | apply List.Mem.tail)) (by repeat (first | exact GetS.cons _ (GetS.nil _) | apply GetS.skip)), HC.out.cell (ad := ⟨g, 0, none⟩) (by repeat (first | exact List.Mem.head _ | apply List.Mem.tail)) HXn.out⟩)) ?_; clear hK K'; (try simp only [Act.put, List.getElem_toArray, List.getElem_cons_zero, List.getElem_cons_succ, List.setIfInBounds_toArray, List.set_cons_zero, List.set_cons_succ])
    (refine inN_pure (v := ?_) rfl (Or.inl ⟨by rfl, ?_⟩) ?_; rotate_left 1; (focus (intro W hSW; clear hSW; go_simp; (try (with_reducible rfl)))); (try simp only [Act.put, List.getElem_toArray, List.getElem_cons_zero, List.getElem_cons_succ, List.setIfInBounds_toArray, List.set_cons_zero, List.set_cons_succ]))
    refine inN_end ?_; (go_wp2; go_ret; exact rhere_end (fun W => HQS.out _ W) HC.out)
  · go_simp; refine (rdepth_of HC.out (by repeat (first | exact List.Mem.head _ | apply List.Mem.tail)) HM.out).mono ?_; rw [HDm.out]; rintro e w1 ⟨rfl, hw⟩; replace hw := hw.symm; subst hw; go_simp; refine hK _ _ (.inr (fun _ => ⟨cf_cell HC.out (by repeat (first | exact List.Mem.head _ | apply List.Mem.tail)) (by repeat (first | exact GetS.cons _ (GetS.nil _) | apply GetS.skip)), HC.out.cell (ad := ⟨g, 0, none⟩) (by repeat (first | exact List.Mem.head _ | apply List.Mem.tail)) HXn.out⟩)) ?_; clear hK K'; (try simp only [Act.put, List.getElem_toArray, List.getElem_cons_zero, List.getElem_cons_succ, List.setIfInBounds_toArray, List.set_cons_zero, List.set_cons_succ])
    (refine inN_read (v := ?_) rfl (Or.inl ⟨by rfl, ?_⟩) ?_; rotate_left 1; (focus (intro W hSW; clear hSW; go_simp; (try (with_reducible rfl)))); (try simp only [Act.put, List.getElem_toArray, List.getElem_cons_zero, List.getElem_cons_succ, List.setIfInBounds_toArray, List.set_cons_zero, List.set_cons_succ]))
    (refine inN_read rfl (yl_cell tcTS rfl rfl rfl (fun W hS => hS.2)) ?_; (try simp only [Act.put, List.getElem_toArray, List.getElem_cons_zero, List.getElem_cons_succ, List.setIfInBounds_toArray, List.set_cons_zero, List.set_cons_succ]))
    refine inN_act rfl rfl (fun K' hK => ?_); refine cfo_bs0 54 rfl Try.underlying54 (k := 1) (by kernel_rfl) HC.out ?_; intro bb w' hg hc; clear hg; (replace HC := hide hc; clear hc); refine hK _ _ (.inr (fun _ => ⟨cf_cell HC.out (by repeat (first | exact List.Mem.head _ | apply List.Mem.tail)) (by repeat (first | exact GetS.cons _ (GetS.nil _) | apply GetS.skip)), HC.out.cell (ad := ⟨g, 0, none⟩) (by repeat (first | exact List.Mem.head _ | apply List.Mem.tail)) HXn.out⟩)) ?_; clear hK K'; (try simp only [Act.put, List.getElem_toArray, List.getElem_cons_zero, List.getElem_cons_succ, List.setIfInBounds_toArray, List.set_cons_zero, List.set_cons_succ])
    refine inN_act rfl rfl (fun K' hK => ?_); refine cfo_apr (v := .slice (some ⟨bb, 0, none⟩) 0 0) _ _ rfl Try.underlying54 infoSTR (by decide) rfl rfl HC.out (by repeat (first | exact List.Mem.head _ | apply List.Mem.tail)) (nm_one l) HNn.out ?_; intro d9 c9 w' hg hc; clear hg; (replace HC := hide hc; clear hc); refine hK _ _ (.inr (fun _ => ⟨cf_cell HC.out (by repeat (first | exact List.Mem.head _ | apply List.Mem.tail)) (by repeat (first | exact GetS.cons _ (GetS.nil _) | apply GetS.skip)), HC.out.cell (ad := ⟨g, 0, none⟩) (by repeat (first | exact List.Mem.head _ | apply List.Mem.tail)) HXn.out⟩)) ?_; clear hK K'; (try simp only [Act.put, List.getElem_toArray, List.getElem_cons_zero, List.getElem_cons_succ, List.setIfInBounds_toArray, List.set_cons_zero, List.set_cons_succ])
    (refine inN_pure (v := ?_) rfl (Or.inl ⟨by rfl, ?_⟩) ?_; rotate_left 1; (focus (intro W hSW; clear hSW; go_simp; (try (with_reducible rfl)))); (try simp only [Act.put, List.getElem_toArray, List.getElem_cons_zero, List.getElem_cons_succ, List.setIfInBounds_toArray, List.set_cons_zero, List.set_cons_succ]))
    refine inN_end ?_; (go_wp2; go_ret; exact rhere_end (fun W => HQS.out _ W) HC.out)
end Go.Proofs.Ytmoekalagollhaa.So
