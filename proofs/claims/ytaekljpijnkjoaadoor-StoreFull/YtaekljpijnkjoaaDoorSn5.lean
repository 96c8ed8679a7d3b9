/-
  The law StoreFull's own names, and what a store holds behind so many of them.
-/
import Derived.Test.YtaekljpijnkjoaaDoorSn4
namespace Go.Proofs.YtaekljpijnkjoaaDoor.St
open Go.RowKit Go.Maps Go.Proofs.YtaekljpijnkjoaaDoor.Tx
set_option linter.unusedVariables false
set_option linter.unusedSimpArgs false
set_option maxRecDepth 100000

def nmI (i : Nat) : List UInt8 := [70, UInt8.ofNat (97 + i / 26), UInt8.ofNat (97 + i % 26)]
theorem nmI_max (i : Nat) : (nmI i).length ≤ maxLen := by show 3 ≤ maxLen; decide
theorem nmI_nm {i : Nat} (h : i < 70) : nmB (nmI i) = true := by
  have : ∀ i : Fin 70, nmB (nmI i.1) = true := by decide
  exact this ⟨i, h⟩
theorem nmI_inj {i j : Nat} (hi : i < 70) (hj : j < 70) (h : nmI i = nmI j) : i = j := by
  simp only [nmI, List.cons.injEq, and_true, true_and] at h
  have h1 := congrArg UInt8.toNat h.1
  have h2 := congrArg UInt8.toNat h.2
  simp at h1 h2
  omega
theorem conv_three (w : World) (q r : Nat) (hq : q < 10) (hr : r < 26) :
    (convert 40 9 (.slice (some ⟨w.heap.size, 0, none⟩) 3 3)).run Tryd.prog (w.alloc (.cells #[.int .u8 70, .int .u8 (97 + (q : Int)), .int .u8 (97 + (r : Int))] 5)) = .ok (.string (bs [70, UInt8.ofNat (97 + q), UInt8.ofNat (97 + r)])) (w.alloc (.cells #[.int .u8 70, .int .u8 (97 + (q : Int)), .int .u8 (97 + (r : Int))] 5)) := by
  have := run_convert_bytes_back (P := Tryd.prog) (w.alloc (.cells #[.int .u8 70, .int .u8 (97 + (q : Int)), .int .u8 (97 + (r : Int))] 5)) 40 9 5 ⟨w.heap.size, 0, none⟩ 3 [70, UInt8.ofNat (97 + q), UInt8.ofNat (97 + r)] Tryd.underlying40 Tryd.underlying5 Tryd.underlying9 (fun j hj => by
    have hadd : (⟨w.heap.size, 0, none⟩ : Addr).add j = ⟨w.heap.size, j, none⟩ := by unfold Addr.add; split <;> simp_all
    rw [hadd, cell_of_row _ _ _ _ _ _ (heap_alloc_last _ _)]
    have h3 : j = 0 ∨ j = 1 ∨ j = 2 := by simp at hj; omega
    rcases h3 with rfl | rfl | rfl
    · rfl
    · simp; omega
    · simp; omega)
  exact this
set_option maxHeartbeats 1000000 in
theorem name_i (i : Nat) (h : i < 70) (w : World) : Calls Tryd.prog 20 #[.int .i64 i] w fun e w' => e = .returned (.string (bs (nmI i))) ∧ w.grownBy w' none := by
  obtain ⟨q, hq⟩ : ∃ q, i / 26 = q := ⟨_, rfl⟩
  obtain ⟨r, hr⟩ : ∃ r, i % 26 = r := ⟨_, rfl⟩
  have h1 : (i : Int).tdiv 26 = (q : Int) := by rw [← hq]; simp [Int.tdiv_eq_ediv]
  have h2 : (i : Int).tmod 26 = (r : Int) := by rw [← hr]; simp [Int.tmod_eq_emod]
  have hq10 : q < 10 := by omega
  have hr26 : r < 26 := by omega
  have hcv := conv_three w q r hq10 hr26
  unfold nmI
  rw [hq, hr]
  obtain ⟨S, hS⟩ : ∃ S, bs [70, UInt8.ofNat (97 + q), UInt8.ofNat (97 + r)] = S := ⟨_, rfl⟩
  rw [hS] at hcv ⊢
  clear hS
  have q0 : (q : Int) < 10 := by omega
  have r0 : (r : Int) < 26 := by omega
  clear hq hr
  go_enter Tryd.func20, Tryd.ntmps20
  go_wp2
  go_ret
  exact ⟨rfl, alloc_g _ _⟩
/- The files behind so many Puts, the last one first. -/
def fl : Nat → List Pr
  | 0 => []
  | m + 1 => (nmI m, tX) :: fl m
theorem fl_len (m : Nat) : (fl m).length = m := by
  induction m with
  | zero => rfl
  | succ m ih => simp [fl, ih]
theorem fl_mem {m : Nat} {p : Pr} (h : p ∈ fl m) : ∃ j, j < m ∧ p.1 = nmI j := by
  induction m with
  | zero => cases h
  | succ m ih =>
    rcases List.mem_cons.1 h with rfl | h
    · exact ⟨m, by omega, rfl⟩
    · obtain ⟨j, hj, e⟩ := ih h
      exact ⟨j, by omega, e⟩
theorem fl_no {m i : Nat} (hm : m ≤ i) (hi : i < 70) : ∀ p ∈ fl m, p.1 ≠ nmI i := fun p hp e => by
  obtain ⟨j, hj, e2⟩ := fl_mem hp
  have := nmI_inj (by omega) hi (e2.symm.trans e)
  omega
theorem fl_put {i : Nat} (h : i < 64) : errP (nmI i) tX (fl i) = 0 ∧ putS (nmI i) tX (fl i) = fl (i + 1) := by
  have hn := nmI_nm (show i < 70 by omega)
  have h1 : errP (nmI i) tX (fl i) = 0 := by
    simp only [errP, hn, fl_len]
    rw [if_neg (by simp), if_neg (by decide), if_neg (by omega)]
  refine ⟨h1, ?_⟩
  rw [putS, if_pos h1]
  have : without (nmI i) (fl i) = fl i := List.filter_eq_self.2 (fun p hp => by simpa using fl_no (Nat.le_refl i) (by omega) p hp)
  rw [this]; rfl
theorem fl_full {i : Nat} (h : 64 ≤ i) (hi : i < 70) : errP (nmI i) tX (fl 64) = 3 ∧ putS (nmI i) tX (fl 64) = fl 64 := by
  have hn := nmI_nm hi
  have hg : hasL (nmI i) (fl 64) = false := by rw [hasL, getL_no (fl_no h hi)]
  have h1 : errP (nmI i) tX (fl 64) = 3 := by
    simp only [errP, hn, fl_len, hg]
    rw [if_neg (by simp), if_neg (by decide), if_pos (by simp)]
  exact ⟨h1, by rw [putS, if_neg (by rw [h1]; decide)]⟩
theorem fl_zero {m : Nat} (h : 1 ≤ m) : ∃ t, (nmI 0, t) ∈ fl m := by
  induction m with
  | zero => omega
  | succ m ih =>
    by_cases h0 : m = 0
    · subst h0; exact ⟨tX, by simp [fl]⟩
    · obtain ⟨t, ht⟩ := ih (by omega)
      exact ⟨t, List.mem_cons_of_mem _ ht⟩
theorem fl_again {m : Nat} (h : 1 ≤ m) (hm : m ≤ 64) (hd : Nd (fl m)) (t : List UInt8) (ht : t.length ≤ 131072) : errP (nmI 0) t (fl m) = 0 ∧ (putS (nmI 0) t (fl m)).length = m := by
  have hn := nmI_nm (show 0 < 70 by omega)
  obtain ⟨u, hu⟩ := fl_zero h
  have hg : hasL (nmI 0) (fl m) = true := by rw [hasL, getL_is hd hu]
  have h1 : errP (nmI 0) t (fl m) = 0 := by
    simp only [errP, hn, hg]
    rw [if_neg (by simp), if_neg (by omega), if_neg (by simp)]
  refine ⟨h1, ?_⟩
  rw [putS, if_pos h1]
  have hp := (without_perm hd hu).length_eq
  rw [fl_len] at hp
  simp at hp ⊢
  omega
/- How long a slice is. -/
theorem own_len {w : World} {base n : Nat} {e : TypeId} {v : Value} {xs : List Value} (h : w.ownsRow base e 1 v n xs) : ∃ a c, v = .slice a n c := by
  rcases h.2 with ⟨rfl, rfl⟩ | ⟨g, cap, cur, rfl, _⟩
  · exact ⟨none, 0, rfl⟩
  · exact ⟨_, cap, rfl⟩
end Go.Proofs.YtaekljpijnkjoaaDoor.St
