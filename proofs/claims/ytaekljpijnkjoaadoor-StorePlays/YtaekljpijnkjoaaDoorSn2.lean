/-
  Package store's key.name and Names.
-/
import Derived.Test.YtaekljpijnkjoaaDoorSn1
import Derived.Sort.OwnSorted
import Derived.Laws.BytesString
import Derived.Laws.IdiomStrings
import Derived.Laws.AppendOwnNone
import Derived.Laws.IdiomRangeMap
import Derived.Sort.KeysCollected
import Derived.OwnWalk
namespace Go.Proofs.YtaekljpijnkjoaaDoor.St
open Go.RowKit Go.Maps Go.Sort Go.Proofs.YtaekljpijnkjoaaDoor.Tx
set_option linter.unusedVariables false
set_option linter.unusedSimpArgs false
set_option maxRecDepth 100000

theorem conv_key (w : World) {s : List UInt8} (h : s.length ≤ 24) : (convert 40 9 (.slice (some ⟨w.heap.size, 0, none⟩) 24 24)).run Tryd.prog (w.alloc (.cells (padV s) 52)) = .ok (.string (bs (padL s))) (w.alloc (.cells (padV s) 52)) := by
  have := run_convert_bytes_back (P := Tryd.prog) (w.alloc (.cells (padV s) 52)) 40 9 5 ⟨w.heap.size, 0, none⟩ 24 (padL s) Tryd.underlying40 Tryd.underlying5 Tryd.underlying9 (fun j hj => by
    have hadd : (⟨w.heap.size, 0, none⟩ : Addr).add j = ⟨w.heap.size, j, none⟩ := by unfold Addr.add; split <;> simp_all
    rw [hadd, cell_of_row _ _ _ _ _ _ (heap_alloc_last _ _)]
    simp [padV, hj, b8])
  rw [padL_len h] at this
  exact this
theorem trim_key {s : List UInt8} (h : nmB s = true) : (Lib.trimRightB (bs (padL s)).data.toList 0) = s := by
  have : (bs (padL s)).data.toList = padL s := by simp [bs]
  rw [this]
  exact unpad_padL (nm_zero h)
set_option maxHeartbeats 1000000 in
theorem kname_any (s : List UInt8) (h : nmB s = true) (w : World) : Calls Tryd.prog 27 #[.agg (padV s)] w fun e w' => e = .returned (.string (bs s)) ∧ w.grownBy w' none := by
  have hcv := conv_key w (nm_len h)
  have hT := fun W => Tryd.strings_TrimRight_one (bs (padL s)) 0 (by decide) W (by rw [bs_size, padL_len (nm_len h)]; decide)
  rw [trim_key h] at hT
  have HT := hide hT
  have hps := padV_size (nm_len h)
  clear hT h
  generalize padV s = K at hcv hps ⊢
  go_enter Tryd.func27, Tryd.ntmps27
  go_wp2_with (go_at_call 31; refine (HT.out _).mono ?_; rintro e w' ⟨rfl, h⟩; replace h := h.symm; subst h)
  go_ret
  exact ⟨rfl, alloc_g _ _⟩
/- The slice's own row is neither a map nor an iterator. -/
theorem FM.off {w : World} {b : Nat} {l : List Pr} (f : FM w b l) {base n : Nat} {e : TypeId} {v : Value} {xs : List Value} (h : w.ownsRow base e 1 v n xs) : some b ≠ v.ownBlock := by
  rcases h.2 with ⟨rfl, _⟩ | ⟨g, cap, cur, rfl, _, hb, _⟩
  · simp [Value.ownBlock]
  · intro e1
    exact f.ne hb (by simpa [Value.ownBlock] using e1.symm)
theorem Rg.off {W : World} {b r : Nat} {l rest : List Pr} {cnt : Nat} (f : Rg W b r l rest cnt) {base n : Nat} {e : TypeId} {v : Value} {xs : List Value} (h : W.ownsRow base e 1 v n xs) : some r ≠ v.ownBlock := by
  rcases h.2 with ⟨rfl, _⟩ | ⟨g, cap, cur, rfl, _, hb, _⟩
  · simp [Value.ownBlock]
  · intro e1
    exact f.iter hb (by simpa [Value.ownBlock] using e1.symm)
theorem one_cell (W : World) (x : Value) (t : TypeId) : ∀ (j : Nat) (u : Value), [x][j]? = some u → (W.alloc (.cells #[x] t)).cell? ((⟨W.heap.size, 0, none⟩ : Addr).add j) = some u := by
  intro j u hu
  have hadd : (⟨W.heap.size, 0, none⟩ : Addr).add j = ⟨W.heap.size, j, none⟩ := by unfold Addr.add; split <;> simp_all
  rw [hadd, cell_of_row _ _ _ _ _ _ (heap_alloc_last _ _)]
  simpa using hu
def nmV (p : Pr) : Value := .string (bs p.1)
theorem row_snoc {w : World} {base : Nat} {e : TypeId} {v : Value} {dn : List Pr} {p : Pr} (h : w.ownsRow base e 1 v (dn.length + 1) (dn.map nmV ++ [.string (bs p.1)])) : w.ownsRow base e 1 v (dn ++ [p]).length ((dn ++ [p]).map nmV) := by
  simpa [nmV] using h
theorem info_str : (Tryd.prog.info? 9).map (fun i => (i.zero, i.size, i.bytes)) = some (some (.string ⟨#[]⟩), 1, 16) := by kernel_rfl
set_option maxHeartbeats 4000000 in
theorem names_at {w : World} {h b : Nat} {l : List Pr} (s : Sto w h b l) (hl : l.length ≤ 64) : Calls Tryd.prog 18 #[.pointer (some ⟨h, 0, none⟩)] w fun e w' => ∃ (v : Value) (ns : List (List UInt8)), e = .returned v ∧ w.grownBy w' none ∧ ns.Perm (l.map Prod.fst) ∧ w'.ownsRow w.heap.size 9 1 v l.length ((ns.mergeSort fun x y => decide (x ≤ y)).map encStr) := by
  obtain ⟨Z, hZ⟩ : ∃ Z, padV [] = Z := ⟨_, rfl⟩
  have hpz : Z.size = 24 := by rw [← hZ]; exact padV_size (by simp)
  rw [padV_nil] at hZ
  have hcell := s.cell
  obtain ⟨w1, cnt0, hrun, hR, hg1⟩ := s.files.range
  obtain ⟨r, hr⟩ : ∃ r, w.heap.size = r := ⟨_, rfl⟩
  rw [hr] at hrun hR
  have HR := hide hR
  have HRB := hide (Nat.le_of_eq hr)
  obtain ⟨i0, hi, hz0, hz1, hz2⟩ := info_parts info_str
  have HG1 := hide hg1
  have HL := hide hl
  have HC := hide hcell
  clear hR hg1 s hl hcell
  go_enter Tryd.func18, Tryd.ntmps18
  go_wp2_with (go_at_call 26; refine (all_at _ h _ HC.out).mono ?_; rintro e w' ⟨rfl, h⟩; replace h := h.symm; subst h)
  go_loopw [3] (fun v W => ∃ rest dn cnt, Hid (Rg W b r l rest cnt) ∧ Hid ((dn ++ rest).Perm l) ∧ Hid (W.ownsRow r 9 1 v dn.length (dn.map nmV)) ∧ Hid (w.grownBy W none)) (fun _ W => W.rangeLeft b r)
  case atStart => exact ⟨l, [], cnt0, HR.out, hide (by simp), hide ⟨rfl, .inl ⟨rfl, rfl⟩⟩, HG1.out⟩
  case round =>
    obtain ⟨rest, dn, cnt, hR, hP, hO, hG⟩ := hrel
    clear hrun
    rcases hR.out.next 0 with ⟨h0, hnx⟩ | ⟨p, W', cnt', hp, hnx, hR', hlt, hg', hsz, hent⟩
    · subst h0
      obtain ⟨ss, hss⟩ : ∃ ss, ss = dn.map Prod.fst := ⟨_, rfl⟩
      have hn : dn.length = ss.length := by rw [hss]; simp
      have hx : dn.map nmV = ss.map encStr := by rw [hss, List.map_map]; rfl
      have hpm : dn.Perm l := by simpa using hP.out
      have HPM := hide (show ss.Perm (l.map Prod.fst) by rw [hss]; exact hpm.map _)
      have HLN := hide (show l.length = ss.length by rw [← hn]; exact hpm.length_eq.symm)
      rw [hn, hx] at hO
      have h64 := HL.out
      have hsl : ss.length ≤ 64 := by rw [← HLN.out]; exact h64
      clear hn hx hpm hss hP h64
      rcases hO.out.2 with ⟨hv, hz⟩ | ⟨g, cap, cur, hv, hbase, hb, r1, r2, r3, r4⟩
      · have hs0 : ss = [] := List.eq_nil_of_length_eq_zero hz
        rw [hv]
        subst hs0
        clear hO hz hv hsl
        go_wp2_with (go_at_call 28; refine (Tryd.slices_Sort_string_none none 0 _).mono ?_; rintro e w' ⟨rfl, h⟩; replace h := h.symm; subst h)
        go_ret
        exact ⟨_, [], rfl, hG.out, HPM.out, by rw [HLN.out, hr]; exact ⟨by simp, .inl ⟨rfl, rfl⟩⟩⟩
      · rw [hv]
        have HH := hide (holds_of_block hb (by simpa using r4))
        have HB := hide ((Array.getElem?_eq_some_iff.1 hb).1)
        have HE := hide (fun n os => ownsRow_sorted (ts := ss.mergeSort fun x y => decide (x ≤ y)) (n := n) (os := os) (by simp) hbase hb r1 r2 r3)
        have HB2 := hide hbase
        have hs62 : ss.length < 4611686018427387904 := by omega
        have HSZ := hide hs62
        clear hO hv hb r1 r2 r3 r4 hbase hsl hs62
        go_wp2_with (go_at_call 28; refine (Tryd.slices_Sort_string g 0 cap ss _ HH.out HB.out HSZ.out).mono ?_; rintro e w' ⟨rfl, nn, os, h⟩; replace h := h.symm; subst h)
        go_ret
        refine ⟨_, ss, rfl, ?_, HPM.out, by rw [HLN.out, hr]; exact HE.out nn os⟩
        exact grown_own hG.out (by rw [hr]; exact HB2.out) (grownBy_sorted _)
    · have hn' := hR.out.fm.nms p (hR.out.sub p hp)
      have hps := padV_size (nm_len hn')
      have hsc := stores_new W' hpz hps (padV_one p.1)
      have HKN := hide (fun W => kname_any p.1 hn' W)
      unfold keyV fileV at hnx hent
      generalize padV p.1 = K at hnx hent hsc HKN hps
      have HO1 := hide (hO.out.kept hg' (.inr (fun e => hR.out.off hO.out e.symm)))
      have HR1 := hide hR'
      have HG1' := hide (show w.grownBy W' none from grown_own hG.out (HRB.out) hg')
      have HPP := hide (show (dn ++ [p] ++ without p.1 rest).Perm l by
        refine List.Perm.trans ?_ hP.out
        rw [List.append_assoc]
        exact (without_perm hR.out.nd hp).symm.append_left dn)
      have hdn : dn.length ≤ 64 := by
        have := hP.out.length_eq
        simp at this
        have := HL.out
        omega
      have HLT := hide (show cnt' < wr.rangeLeft b r by rw [hR.out.left]; exact hlt)
      clear hn' hO hR' hg' hP hR hp hlt hG hsz
      go_wp2_with (first
        | (refine wl_load rfl _ rfl _ rfl K (heap_alloc_last _ _) hps ?_)
        | (go_at_call 27; refine (HKN.out _).mono ?_; rintro e w2 ⟨rfl, hg⟩; have HG2 := hide hg; have HO2 := hide ((HO1.out.alloc (.cells K 52)).kept hg (by cases hv : Value.ownBlock _ <;> simp)); have HR2 := hide ((HR1.out.kept (alloc_g _ (.cells K 52)) (by simp) (by simp)).kept hg (by simp) (by simp)); have HG3 := hide (grown_trans (grown_trans HG1'.out (alloc_g _ (.cells K 52))) hg); clear hg HO1 HR1 HG1' HG2)
        | (at_builtin; refine wpList_append_own _ rfl _ _ 26 rfl r 9 i0 (.string ⟨#[]⟩) 1 16 Tryd.underlying26 hi hz0 hz1 hz2 rfl (by decide) _ _ _ rfl (HO2.out.alloc _) ⟨w2.heap.size, 0, none⟩ 1 1 [.string (bs p.1)] rfl rfl ?c1 ?c2 ?c3 ?c4 ?c5 ?_))
      case c1 => exact one_cell _ _ _
      case c2 => intro u hu; simp at hu; subst hu; rfl
      case c3 => unfold maxLen; omega
      case c4 => omega
      case c5 => have := HG3.out.size; simp; omega
      intro v' w3 hown' hgrow _
      have X2 := HO2.out.alloc (.cells #[.string (bs p.1)] 9)
      have R2 := HR2.out.kept (alloc_g _ (.cells #[.string (bs p.1)] 9)) (by simp) (by simp)
      have HR3 := hide (R2.kept hgrow (R2.fm.off X2) (R2.off X2))
      have HG4 := hide (show w.grownBy w3 none from (grown_trans HG3.out (alloc_g _ _)).andThen hgrow (fun j hj => .inl (by rw [hr]; exact (X2.lt j hj).1)))
      have HO3 := hide (row_snoc hown')
      clear hown' hgrow X2 R2 HR2 HG3 HO2
      go_wp2
      go_roundw
      case rel => exact ⟨_, _, _, HR3, HPP, HO3, HG4⟩
      case measure => rw [HR3.out.left]; exact HLT.out
end Go.Proofs.YtaekljpijnkjoaaDoor.St
