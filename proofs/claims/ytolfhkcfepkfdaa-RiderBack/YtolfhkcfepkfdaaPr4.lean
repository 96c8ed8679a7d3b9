/-
  Package rider's reader: Num.
-/
import Derived.Test.YtolfhkcfepkfdaaCp3
import Derived.Test.YtolfhkcfepkfdaaNu3
import Derived.Test.YtolfhkcfepkfdaaPr1
import Derived.DeepKeys
namespace Go.Proofs.Ytolfhkcfepkfdaa.Ri
open Go.RowKit Go.Proofs.Ytolfhkcfepkfdaa.Tx Go.Proofs.Ytolfhkcfepkfdaa.Bits
set_option linter.unusedVariables false
set_option linter.unusedSimpArgs false
set_option maxRecDepth 100000

/- A number that is read, told by its bytes. -/
theorem num_same {l : List UInt8} (h : Shp l) (hl : l.length ≤ 5) : numL (wrap32 (valN l)) = l ↔ fitsB (valN l) 32 = true ∧ (numL (valN l)).length = l.length := by
  constructor
  · intro e
    have hw := wrap32_lt (valN l)
    have hf : fitsB (wrap32 (valN l)) 32 = true := fits_in.2 hw
    have e' : numF 4 (wrap32 (valN l)) = l := e
    have hv : valN l = wrap32 (valN l) := by have := (numF_shp 4 _ (in4 hf)).2; rwa [e'] at this
    exact ⟨by rw [hv]; exact hf, by rw [← hv] at e; rw [e]⟩
  · intro ⟨hf, hlen⟩
    have hb := fits_in.1 hf
    have hw : wrap32 (valN l) = valN l := by unfold wrap32; omega
    rw [hw]
    exact numF_of l 4 h hlen
theorem cp_lits (l : List UInt8) (hl : l.length ≤ 5) : Try.prog.keyLits 3 65 (cpC l).toList = some [.int .u8 (gI l 0), .int .u8 (gI l 1), .int .u8 (gI l 2), .int .u8 (gI l 3), .int .u8 (gI l 4), .int .i64 l.length] := by
  have hg : ∀ i, (Lit.int .u8 (gI l i)).wf = true := fun i => by
    have := gI_bd l i
    have e0 : IntKind.u8.min = 0 := by decide
    have e1 : IntKind.u8.max = 255 := by decide
    simp [Lit.wf, e0, e1]
    omega
  have hn : (Lit.int .i64 (l.length : Int)).wf = true := by
    have e0 : IntKind.i64.min = -9223372036854775808 := by decide
    have e1 : IntKind.i64.max = 9223372036854775807 := by decide
    simp [Lit.wf, e0, e1]
    omega
  have k0 : Try.prog.cellsOf 65 = 6 := by kernel_rfl
  have k1 : Try.prog.cellsOf 63 = 5 := by kernel_rfl
  have k2 : Try.prog.cellsOf 5 = 1 := by kernel_rfl
  have k3 : Try.prog.cellsOf 3 = 1 := by kernel_rfl
  simp [Program.keyLits, Try.underlying65, Try.underlying63, Try.underlying5, Try.underlying3, cpC, hg, hn, k0, k1, k2, k3, List.range, List.range.loop]
theorem gI_list (M l : List UInt8) (hM : M.length = l.length) (h5 : l.length ≤ 5) (h : ∀ i, i < 5 → gI M i = gI l i) : M = l := by
  apply List.ext_getElem hM
  intro i h1 h2
  have := h i (by omega)
  unfold gI at this
  simp only [List.getD, List.getElem?_eq_getElem h1, List.getElem?_eq_getElem h2, Option.getD_some] at this
  exact UInt8.toNat_inj.1 (by omega)
theorem cp_neq (M l : List UInt8) (hM : M.length ≤ 5) (hl : l.length ≤ 5) (w : World) : (binOp .neq 65 (.agg (cpC M)) (.agg (cpC l))).run Try.prog w = .ok (.bool (!decide (M = l))) w := by
  obtain ⟨r, hr, hiff⟩ := run_equalIn_deep (P := Try.prog) 9997 3 65 (by kernel_rfl) w 3 3 (.agg (cpC M)) (.agg (cpC l)) _ _ (by unfold cpC; simp [Value.formed, Try.underlying65]; kernel_rfl) (by unfold cpC; simp [Value.formed, Try.underlying65]; kernel_rfl) (cp_lits M hM) (cp_lits l hl)
  rw [run_neq_struct, hr]
  simp only [Result.andThen_ok]
  have : r = decide (M = l) := by
    rw [Bool.eq_iff_iff, hiff, decide_eq_true_iff]
    constructor
    · intro e
      simp at e
      obtain ⟨a0, a1, a2, a3, a4, a5⟩ := e
      exact gI_list M l (by omega) hl (fun i hi => by rcases (by omega : i = 0 ∨ i = 1 ∨ i = 2 ∨ i = 3 ∨ i = 4) with rfl | rfl | rfl | rfl | rfl <;> assumption)
    · rintro rfl
      rfl
  rw [this]
theorem cp_guard (M l : List UInt8) (x y : Operand) (w : World) : (eqGuard .neq 65 x y (.agg (cpC M)) (.agg (cpC l))).run Try.prog w = .ok () w :=
  run_eqGuard_agg w .neq 65 x y _ _ (by kernel_rfl)
theorem keep_n {W W' : World} {k : Nat} {o : Obj} (h : W.heap[k]? = some o) (hg : W.grownBy W' none) : W'.heap[k]? = some o := (hg.block k (Array.getElem?_eq_some_iff.1 h).1 (by simp)).trans h
theorem from_g {a b c d : World} {k : Nat} (h : a.grownBy b none) (h2 : b.grownBy c none) (h3 : c.grownBy d (some k)) : a.grownBy d (some k) := ⟨h3.os.trans (h2.os.trans h.os), h3.tape.trans (h2.tape.trans h.tape), h3.output.trans (h2.output.trans h.output), Nat.le_trans h.size (Nat.le_trans h2.size h3.size), fun i hi hn => (h3.block i (Nat.lt_of_lt_of_le hi (Nat.le_trans h.size h2.size)) hn).trans ((h2.block i (Nat.lt_of_lt_of_le hi h.size) (by simp)).trans (h.block i hi (by simp)))⟩
theorem g_from {a b c : World} {k : Nat} (h : a.grownBy b none) (h3 : b.grownBy c (some k)) : a.grownBy c (some k) := from_g h ⟨rfl, rfl, rfl, Nat.le_refl _, fun _ _ _ => rfl⟩ h3
theorem drew_g (w : World) : w.grownBy w.drew none := ⟨rfl, rfl, rfl, Nat.le_refl _, fun _ _ _ => rfl⟩
section
variable {W : World} {q p : Nat} {s : List UInt8} {bad : Bool}
set_option maxHeartbeats 1000000 in
theorem pnum_none (r : Pb W q s p bad) (h : bad = true ∨ ∀ i (hi : p + i < s.length), i < 5 → 128 ≤ s[p + i].toNat) :
    Calls Try.prog 21 #[.pointer (some ⟨q, 0, none⟩)] W fun e W' => e = .returned (.int .i64 0) ∧ Pb W' q s p true ∧ W.grownBy W' (some q) := by
  have HR := hide r
  have HRS := hide (rest_at r)
  have hL : ∀ i (hi : i < (lfL s p bad).length), i < 5 → 128 ≤ (lfL s p bad)[i].toNat := by
    rcases h with rfl | h
    · intro i hi
      simp [lfL] at hi
    · cases bad
      · intro i hi h5
        simp only [lfL, Bool.false_eq_true, if_false] at hi ⊢
        rw [List.getElem_drop]
        exact h i (by simp at hi; omega) h5
      · intro i hi
        simp [lfL] at hi
  have hmax : (lfL s p bad).length ≤ 1000000 := by
    have := r.max
    cases bad <;> simp [lfL]
    omega
  generalize lfL s p bad = L at HRS hL hmax
  have HCI := hide (cin_no W L hmax hL)
  unfold cpC at HCI
  clear r h hL
  go_enter Try.func21, Try.ntmps21
  go_wp2_with (first | (go_at_call 45; refine HRS.out.mono ?_; rintro e w' ⟨rfl, hw⟩; replace hw := hw.symm; subst hw) | (go_at_call 44; refine (HCI.out).mono ?_; rintro e w1 ⟨rfl, h1⟩; have G1 := hide h1; have R1 := hide (HR.out.kept h1); clear h1) | (go_at_call 46; refine (fail_at (R1.out.kept (alloc_g _ _))).mono ?_; rintro e wf ⟨rfl, h1, h2⟩; have HE := hide h1; have HEG := hide (from_g G1.out (alloc_g _ _) h2); clear h1 h2))
  go_ret
  exact ⟨rfl, HE.out, HEG.out⟩
set_option maxHeartbeats 1000000 in
theorem pnum_whole (r : Pb W q s p false) (L l : List UInt8) (hL : s.drop p = L) (n : Nat) (hn : n ≤ 4) (hns : n < L.length) (h : ∀ i (hi : i < L.length), i < n → 128 ≤ L[i].toNat) (hl : L[n].toNat < 128) (hll : L.take (n + 1) = l) (hsh : Shp l) :
    Calls Try.prog 21 #[.pointer (some ⟨q, 0, none⟩)] W fun e W' => (numL (wrap32 (valN l)) = l → e = .returned (.int .i64 (wrap32 (valN l))) ∧ Pb W' q s (p + l.length) false ∧ W.grownBy W' (some q))
      ∧ (numL (wrap32 (valN l)) ≠ l → e = .returned (.int .i64 0) ∧ Pb W' q s p true ∧ W.grownBy W' (some q)) := by
  have HR := hide r
  have hrs := rest_at r
  rw [show lfL s p false = L from hL] at hrs
  have HRS := hide hrs
  have hmax : L.length ≤ 1000000 := by have := r.max; rw [← hL]; simp; omega
  have hci := cin_yes W L hmax n hn hns h hl
  rw [hll] at hci
  have HCI := hide hci
  have hln : l.length = n + 1 := by rw [← hll]; simp; omega
  have HP := hide (show p + l.length ≤ s.length by have := congrArg List.length hL; simp at this; omega)
  have HNB := hide (fun V : World => number_at V l hsh (by omega))
  have HCO := hide (fun V : World => compact_of V (wrap32 (valN l)) (fits_in.2 (wrap32_lt _)))
  generalize wrap32 (valN l) = N at HNB HCO
  obtain ⟨M, hM⟩ : ∃ M, numL N = M := ⟨_, rfl⟩
  rw [hM] at HCO
  rw [hM]
  have hM5 : M.length ≤ 5 := by rw [← hM]; exact numF_len 4 N
  have hq := fun w => cp_neq M l hM5 (by omega) w
  have hg := fun x y w => cp_guard M l x y w
  obtain ⟨vM, hvM⟩ : ∃ v, Value.agg (cpC M) = v := ⟨_, rfl⟩
  rw [hvM] at HCO hq hg
  unfold cpC at HCI HNB hq hg
  have hl5 : (l.length : Int) ≤ 5 := by omega
  have HLn := hide hln
  clear r h hl hns hM hci hrs hll hsh hln hL hvM hM5
  by_cases hml : M = l
  · have hd : decide (M = l) = true := decide_eq_true hml
    rw [hd] at hq
    simp only [Bool.not_true] at hq
    have HML := hide hml
    clear hml hd
    refine Calls.mono ?_ (fun e W' (h : e = .returned (.int .i64 N) ∧ Pb W' q s (p + l.length) false ∧ W.grownBy W' (some q)) => ⟨fun _ => h, fun hne => absurd HML.out hne⟩)
    go_enter Try.func21, Try.ntmps21
    go_wp2_with (first | (go_at_call 45; refine HRS.out.mono ?_; rintro e w' ⟨rfl, hw⟩; replace hw := hw.symm; subst hw) | (go_at_call 44; refine (HCI.out).mono ?_; rintro e w1 ⟨rfl, h1⟩; obtain ⟨V, hV⟩ : ∃ V, w1.alloc (.cells #[.int .u8 (gI l 0), .int .u8 (gI l 1), .int .u8 (gI l 2), .int .u8 (gI l 3), .int .u8 (gI l 4), .int .i64 l.length] 65) = V := ⟨_, rfl⟩; have CV := hide (show V.heap[w1.heap.size]? = some (.cells (cpC l) 65 (0, 0)) by rw [← hV]; exact heap_alloc_new _ _); have gv : w1.grownBy V none := (by rw [← hV]; exact alloc_g _ _); have GV := hide (grown_trans h1 gv); have RV := hide ((HR.out.kept h1).kept gv); clear h1 gv; obtain ⟨x0, x1, x2, x3, x4, x5⟩ := cp_cells CV.out) | (go_at_call 47; refine (HNB.out _).mono ?_; rintro e w2 ⟨rfl, h1⟩; have C2 := hide (keep_n CV.out h1); have G2 := hide (grown_trans GV.out h1); have R2 := hide (RV.out.kept h1); clear h1 x0 x1 x2 x3 x4 x5; obtain ⟨x0, x1, x2, x3, x4, x5⟩ := cp_cells C2.out))
    go_region_with ((go_at_call 42; refine (HCO.out _).mono ?_; rintro e w3 ⟨rfl, h1⟩; have C3 := hide (keep_n (W := w2.drew) C2.out h1); have G3 := hide (grown_trans (grown_trans G2.out (drew_g w2)) h1); have R3 := hide ((R2.out.kept (drew_g w2)).kept h1); clear h1; obtain ⟨y0, y1, y2, y3, y4, y5⟩ := cp_cells C3.out))
    all_goals go_wp2_with (go_at_call 27; refine (praw_yes R3.out l.length HP.out).mono ?_; rintro e wf ⟨rfl, h1, h2⟩; have HE := hide h1; have HEG := hide (g_from G3.out h2); clear h1 h2)
    all_goals go_ret
    all_goals exact ⟨rfl, HE.out, HEG.out⟩
  · have hd : decide (M = l) = false := decide_eq_false hml
    rw [hd] at hq
    simp only [Bool.not_false] at hq
    have HML := hide hml
    clear hml hd
    refine Calls.mono ?_ (fun e W' (h : e = .returned (.int .i64 0) ∧ Pb W' q s p true ∧ W.grownBy W' (some q)) => ⟨fun he => absurd he HML.out, fun _ => h⟩)
    go_enter Try.func21, Try.ntmps21
    go_wp2_with (first | (go_at_call 45; refine HRS.out.mono ?_; rintro e w' ⟨rfl, hw⟩; replace hw := hw.symm; subst hw) | (go_at_call 44; refine (HCI.out).mono ?_; rintro e w1 ⟨rfl, h1⟩; obtain ⟨V, hV⟩ : ∃ V, w1.alloc (.cells #[.int .u8 (gI l 0), .int .u8 (gI l 1), .int .u8 (gI l 2), .int .u8 (gI l 3), .int .u8 (gI l 4), .int .i64 l.length] 65) = V := ⟨_, rfl⟩; have CV := hide (show V.heap[w1.heap.size]? = some (.cells (cpC l) 65 (0, 0)) by rw [← hV]; exact heap_alloc_new _ _); have gv : w1.grownBy V none := (by rw [← hV]; exact alloc_g _ _); have GV := hide (grown_trans h1 gv); have RV := hide ((HR.out.kept h1).kept gv); clear h1 gv; obtain ⟨x0, x1, x2, x3, x4, x5⟩ := cp_cells CV.out) | (go_at_call 47; refine (HNB.out _).mono ?_; rintro e w2 ⟨rfl, h1⟩; have C2 := hide (keep_n CV.out h1); have G2 := hide (grown_trans GV.out h1); have R2 := hide (RV.out.kept h1); clear h1 x0 x1 x2 x3 x4 x5; obtain ⟨x0, x1, x2, x3, x4, x5⟩ := cp_cells C2.out))
    go_region_with ((go_at_call 42; refine (HCO.out _).mono ?_; rintro e w3 ⟨rfl, h1⟩; have C3 := hide (keep_n (W := w2.drew) C2.out h1); have G3 := hide (grown_trans (grown_trans G2.out (drew_g w2)) h1); have R3 := hide ((R2.out.kept (drew_g w2)).kept h1); clear h1; obtain ⟨y0, y1, y2, y3, y4, y5⟩ := cp_cells C3.out))
    all_goals go_wp2_with (go_at_call 46; refine (fail_at R3.out).mono ?_; rintro e wf ⟨rfl, h1, h2⟩; have HE := hide h1; have HEG := hide (g_from G3.out h2); clear h1 h2)
    all_goals go_ret
    all_goals exact ⟨rfl, HE.out, HEG.out⟩
theorem pnum_nil (W : World) : Calls Try.prog 21 #[.pointer none] W fun e W' => e = .returned (.int .i64 0) ∧ W.grownBy W' none := by
  have HRS := hide (rest_nil W)
  have HCI := hide (cin_no W [] (by simp) (by simp))
  unfold cpC at HCI
  go_enter Try.func21, Try.ntmps21
  go_wp2_with (first | (go_at_call 45; refine HRS.out.mono ?_; rintro e w' ⟨rfl, hw⟩; replace hw := hw.symm; subst hw) | (go_at_call 44; refine (HCI.out).mono ?_; rintro e w1 ⟨rfl, h1⟩; have G1 := hide h1; clear h1) | (go_at_call 46; refine (fail_nil _).mono ?_; rintro e w' ⟨rfl, hw⟩; replace hw := hw.symm; subst hw))
  go_ret
  exact ⟨rfl, grown_trans G1.out (alloc_g _ _)⟩
end
end Go.Proofs.Ytolfhkcfepkfdaa.Ri
