/-
  Scope's laws: names made up; what levels hold in the laws of just so many levels and names.
-/
import Derived.Test.YtmoekalagollhaaSw1
namespace Go.Proofs.Ytmoekalagollhaa.So
open Go.RowKit hiding Hid
open Go.Proofs.Ytmoekalagollhaa.Tx Go.Proofs.Ytmoekalagollhaa.Lx Go.Proofs.Ytmoekalagollhaa.Tr Go.Proofs.Ytmoekalagollhaa.Ty
set_option linter.unusedVariables false
set_option linter.unusedSimpArgs false
set_option maxRecDepth 100000

def mdN (i : Nat) : Nm := [109, UInt8.ofNat (97 + i / 26 % 26), UInt8.ofNat (97 + i % 26), UInt8.ofNat (97 + i / 676 % 26)]
theorem mdN_word {i : Nat} (h : i < 300) : wordB (mdN i) = true := by
  have : ∀ i : Fin 300, wordB (mdN i.1) = true := by decide +kernel
  exact this ⟨i, h⟩
theorem mdN_inj {i j : Nat} (hi : i < 300) (hj : j < 300) (h : mdN i = mdN j) : i = j := by
  simp only [mdN, List.cons.injEq, and_true, true_and] at h
  have h1 := congrArg UInt8.toNat h.1
  have h2 := congrArg UInt8.toNat h.2.1
  simp at h1 h2
  omega
theorem mdN_len (i : Nat) : (mdN i).length = 4 := rfl
theorem conv_four (w : World) (q r t : Nat) (hq : q < 26) (hr : r < 26) (ht : t < 26) :
    (convert 84 9 (.slice (some ⟨w.heap.size, 0, none⟩) 4 4)).run Try.prog (w.alloc (.cells #[.int .u8 109, .int .u8 (97 + (q : Int)), .int .u8 (97 + (r : Int)), .int .u8 (97 + (t : Int))] 5)) = .ok (.string (bs [109, UInt8.ofNat (97 + q), UInt8.ofNat (97 + r), UInt8.ofNat (97 + t)])) (w.alloc (.cells #[.int .u8 109, .int .u8 (97 + (q : Int)), .int .u8 (97 + (r : Int)), .int .u8 (97 + (t : Int))] 5)) := by
  have := run_convert_bytes_back (P := Try.prog) (w.alloc (.cells #[.int .u8 109, .int .u8 (97 + (q : Int)), .int .u8 (97 + (r : Int)), .int .u8 (97 + (t : Int))] 5)) 84 9 5 ⟨w.heap.size, 0, none⟩ 4 [109, UInt8.ofNat (97 + q), UInt8.ofNat (97 + r), UInt8.ofNat (97 + t)] Try.underlying84 Try.underlying5 Try.underlying9 (fun j hj => by
    have hadd : (⟨w.heap.size, 0, none⟩ : Addr).add j = ⟨w.heap.size, j, none⟩ := by unfold Addr.add; split <;> simp_all
    rw [hadd, cell_of_row _ _ _ _ _ _ (heap_alloc_new _ _)]
    have h3 : j = 0 ∨ j = 1 ∨ j = 2 ∨ j = 3 := by simp at hj; omega
    rcases h3 with rfl | rfl | rfl | rfl
    · rfl
    · simp; omega
    · simp; omega
    · simp; omega)
  exact this
set_option maxHeartbeats 1000000 in
theorem made_at (i : Nat) (h : i < 300) (w : World) : Calls Try.prog 33 #[.int .i64 i] w fun e w' => e = .returned (.string (bs (mdN i))) ∧ w.grownBy w' none := by
  obtain ⟨q, hq⟩ : ∃ q, i / 26 % 26 = q := ⟨_, rfl⟩
  obtain ⟨r, hr⟩ : ∃ r, i % 26 = r := ⟨_, rfl⟩
  obtain ⟨t, ht⟩ : ∃ t, i / 676 % 26 = t := ⟨_, rfl⟩
  obtain ⟨q1, hq1⟩ : ∃ q, i / 26 = q := ⟨_, rfl⟩
  obtain ⟨t1, ht1⟩ : ∃ q, i / 676 = q := ⟨_, rfl⟩
  have h1 : (i : Int).tdiv 26 = (q1 : Int) := by rw [← hq1]; simp [Int.tdiv_eq_ediv]
  have h2 : (i : Int).tmod 26 = (r : Int) := by rw [← hr]; simp [Int.tmod_eq_emod]
  have h3 : (i : Int).tdiv 676 = (t1 : Int) := by rw [← ht1]; simp [Int.tdiv_eq_ediv]
  have h4 : (q1 : Int).tmod 26 = (q : Int) := by rw [← hq, hq1]; simp [Int.tmod_eq_emod]
  have h5 : (t1 : Int).tmod 26 = (t : Int) := by rw [← ht, ht1]; simp [Int.tmod_eq_emod]
  have hq26 : q < 26 := by omega
  have hr26 : r < 26 := by omega
  have ht26 : t < 26 := by omega
  have hcv := conv_four w q r t hq26 hr26 ht26
  unfold mdN
  rw [hq, hr, ht]
  obtain ⟨S, hS⟩ : ∃ S, bs [109, UInt8.ofNat (97 + q), UInt8.ofNat (97 + r), UInt8.ofNat (97 + t)] = S := ⟨_, rfl⟩
  rw [hS] at hcv ⊢
  clear hS
  have q0 : (q : Int) < 26 := by omega
  have r0 : (r : Int) < 26 := by omega
  have t0 : (t : Int) < 26 := by omega
  have i0 : (i : Int) < 300 := by omega
  have q2 : (q1 : Int) < 300 := by omega
  have t2 : (t1 : Int) < 300 := by omega
  clear hq hr ht hq1 ht1 h
  go_enter Try.func33, Try.ntmps33
  go_wp2
  go_ret
  exact ⟨rfl, World.grownBy_alloc _ _ none⟩
/- ScopeDeep: x at each level, standing for the level's number. -/
def xN : Nm := [120]
def deep : Nat → Sx
  | 0 => []
  | i + 1 => [(xN, (i : Int))] :: deep i
theorem deep_len (i : Nat) : (deep i).length = i := by
  induction i with
  | zero => rfl
  | succ i ih => simp [deep, ih]
theorem gdx (n : Int) : GdL [(xN, n)] := gd1 n
theorem deep_gd (i : Nat) : Gd (deep i) := by
  induction i with
  | zero => intro l hl; cases hl
  | succ i ih => exact gd_cons.2 ⟨gdx _, ih⟩
theorem dexN (n : Int) : decE [] xN = 0 ∧ decL [] xN n = [(xN, n)] := dx0 n
theorem dexT (m n : Int) : decE [(xN, m)] xN = 151 ∧ decL [(xN, m)] xN n = [(xN, m)] := by
  have h : decE [(xN, m)] xN = 151 := by
    unfold decE
    rw [if_neg (by decide), if_pos (by simp [fnd])]
  exact ⟨h, by unfold decL; rw [h]; rfl⟩
theorem fnd_deep (i : Nat) : fndS (deep (i + 1)) xN = some ((i : Int), i) := by
  rw [deep, fndS]
  simp [fnd, deep_len]
theorem fnd_deep0 (i : Nat) : fndS ([] :: deep (i + 1)) xN = some ((i : Int), i) := by rw [fndS]; exact fnd_deep i
/- ScopeFull: made-up names behind others. -/
def mdL (l : Lv1) : Nat → Lv1
  | 0 => l
  | i + 1 => if l.length + i < 256 then mdL l i ++ [(mdN i, (i : Int))] else mdL l i
theorem mdL_len {l : Lv1} (hl : l.length ≤ 256) (i : Nat) : (mdL l i).length = min 256 (l.length + i) := by
  induction i with
  | zero => simp [mdL]; omega
  | succ i ih =>
    rw [mdL]
    split
    · simp [ih]; omega
    · rw [ih]; omega
theorem mdL_mem {l : Lv1} {i : Nat} {p : Nm × Int} (h : p ∈ mdL l i) : p ∈ l ∨ ∃ j, j < i ∧ p.1 = mdN j := by
  induction i with
  | zero => exact .inl h
  | succ i ih =>
    rw [mdL] at h
    split at h
    · rcases List.mem_append.1 h with h | h
      · rcases ih h with h | ⟨j, h1, h2⟩
        · exact .inl h
        · exact .inr ⟨j, by omega, h2⟩
      · simp at h
        subst h
        exact .inr ⟨i, by omega, rfl⟩
    · rcases ih h with h | ⟨j, h1, h2⟩
      · exact .inl h
      · exact .inr ⟨j, by omega, h2⟩
theorem mdL_fnd {l : Lv1} (hl : ∀ p ∈ l, p.1.length ≠ 4) {i : Nat} (hi : i < 300) : fnd (mdL l i) (mdN i) = none := by
  refine fnd_none.2 (fun p hp e => ?_)
  rcases mdL_mem hp with h | ⟨j, h1, h2⟩
  · exact hl p h (by rw [e]; rfl)
  · have := mdN_inj (by omega) hi (h2.symm.trans e)
    omega
theorem mdL_dec {l : Lv1} (h0 : l.length ≤ 256) (hl : ∀ p ∈ l, p.1.length ≠ 4) {i : Nat} (hi : i < 300) : decE (mdL l i) (mdN i) = (if l.length + i < 256 then 0 else 3) ∧ decL (mdL l i) (mdN i) (i : Int) = mdL l (i + 1) := by
  have hlen := mdL_len h0 i
  have hf := mdL_fnd hl hi
  have he : decE (mdL l i) (mdN i) = (if l.length + i < 256 then 0 else 3) := by
    unfold decE
    rw [if_neg (by rw [mdN_word hi]; simp), if_neg (by rw [hf]; simp), hlen]
    by_cases h : l.length + i < 256
    · rw [if_pos h, if_neg (by omega)]
    · rw [if_neg h, if_pos (by omega)]
  refine ⟨he, ?_⟩
  unfold decL
  rw [he, mdL]
  by_cases h : l.length + i < 256
  · rw [if_pos h, if_pos rfl, if_pos h]
  · rw [if_neg h, if_neg (by decide), if_neg h]
theorem mdL_gd {l : Lv1} (h0 : GdL l) (hl : ∀ p ∈ l, p.1.length ≠ 4) : ∀ {i : Nat}, i ≤ 300 → GdL (mdL l i)
  | 0, _ => h0
  | i + 1, h => by
    rw [← (mdL_dec h0.le hl (by omega)).2]
    exact decL_gd (mdL_gd h0 hl (by omega)) _ _
theorem mdL_twice {l : Lv1} {i : Nat} (h1 : 0 < i) (h2 : l.length < 256) (n : Int) (hw : i ≤ 300) : decE (mdL l i) (mdN 0) = 151 := by
  unfold decE
  rw [if_neg (by rw [mdN_word (by omega)]; simp), if_pos]
  intro h
  have hm : (mdN 0, (0 : Int)) ∈ mdL l i := by
    clear h
    induction i with
    | zero => omega
    | succ i ih =>
      rw [mdL]
      by_cases hi : i = 0
      · subst hi
        rw [if_pos (by omega)]
        exact List.mem_append.2 (.inr (.head _))
      · split
        · exact List.mem_append.2 (.inl (ih (by omega) (by omega)))
        · exact ih (by omega) (by omega)
  exact fnd_none.1 h _ hm rfl
end Go.Proofs.Ytmoekalagollhaa.So
