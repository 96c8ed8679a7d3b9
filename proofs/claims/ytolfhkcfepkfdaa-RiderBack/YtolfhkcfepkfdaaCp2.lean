/-
  Package rider's compact numbers: compactIn, number.
-/
import Derived.Test.YtolfhkcfepkfdaaCp1
import Derived.Test.YtolfhkcfepkfdaaNu2
namespace Go.Proofs.Ytolfhkcfepkfdaa.Ri
open Go.RowKit Go.Proofs.Ytolfhkcfepkfdaa.Tx Go.Proofs.Ytolfhkcfepkfdaa.Bits
set_option linter.unusedVariables false
set_option linter.unusedSimpArgs false
set_option maxRecDepth 100000

theorem gI_bd (l : List UInt8) (i : Nat) : 0 ≤ gI l i ∧ gI l i < 256 := by
  unfold gI
  have := (l.getD i 0).toNat_lt
  omega
set_option maxHeartbeats 1000000 in
theorem cin_no (W : World) (s : List UInt8) (hs : s.length ≤ 1000000) (h : ∀ i (hi : i < s.length), i < 5 → 128 ≤ s[i].toNat) :
    Calls Try.prog 44 #[.string (bs s)] W fun e W' => e = .returned (.tuple #[.agg (cpC []), .bool false]) ∧ W.grownBy W' none := by
  have HS := hide (show (W.alloc (.cells (cpC []) 65)).heap[W.heap.size]? = some (.cells (cpC []) 65 (0, 0)) from heap_alloc_new _ _)
  have HSg := hide (alloc_g W (.cells (cpC []) 65))
  have HH := hide h
  have hsz := bs_size s
  clear h
  by_cases hc : s.length ≤ 5
  · have q1 : (s.length : Int) ≤ 5 := by omega
    go_enter Try.func44, Try.ntmps44
    go_wp2
    go_loopw [8] (fun iv wr => ∃ i : Nat, i ≤ s.length ∧ iv = .int .i64 i ∧ Hid (wr.heap[W.heap.size]? = some (.cells (cpC (s.take i)) 65 (0, 0))) ∧ Hid (W.grownBy wr none)) (fun iv _ => 5 - (intOf iv).toNat)
    case atStart => exact ⟨0, by omega, rfl, HS, HSg⟩
    case round =>
      clear HS HSg
      obtain ⟨i, hi, rfl, HC, HG⟩ := hrel
      by_cases hlt : i < s.length
      · have j1 : (i : Int) < s.length := by omega
        have hil : i < s.length := by omega
        have j2 : (i : Int) < s.length := by omega
        have HL := hide (show (s.take i).length ≤ 4 by rw [List.length_take]; omega)
        have hb : ∀ h, (bs s)[i]'h = s[i] := fun h => rfl
        have j3 : ¬ (s[i].toNat : Int) < 128 := by have := HH.out i hil (by omega); omega
        have HZ := hide (List.take_succ_eq_append_getElem hil).symm
        go_wp2_with (go_at_call 53; refine (add_at HC.out HL.out s[i]).mono ?_; rintro e w1 ⟨rfl, h1, h2⟩; rw [HZ.out] at h1; have HC1 := hide h1; have HG1 := hide (grown_own HG.out (Nat.le_refl _) h2); clear h1 h2; obtain ⟨x0, x1, x2, x3, x4, x5⟩ := cp_cells HC1.out; have hf := fun k => free_at (k := k) HC1.out)
        go_roundw
        case rel => exact ⟨i + 1, by omega, by go_num, HC1, HG1⟩
        case measure => simp [intOf]; omega
      · obtain rfl : i = s.length := by omega
        obtain ⟨x0, x1, x2, x3, x4, x5⟩ := cp_cells HC.out
        have hf := fun k => free_at (k := k) HC.out
        go_wp2
        refine bodyPost_ret (v := .tuple #[.agg #[.int .u8 0, .int .u8 0, .int .u8 0, .int .u8 0, .int .u8 0, .int .i64 0], .bool false]) (by simp [results, Try.results44, go_sem, x0, x1, x2, x3, x4, x5]) rfl ⟨rfl, ?_⟩
        exact grown_own HG.out (Nat.le_refl _) (six_g _ _ _ _ _ _ _ _)
  · have q1 : (5 : Int) ≤ s.length := by omega
    go_enter Try.func44, Try.ntmps44
    go_wp2
    go_loopw [8] (fun iv wr => ∃ i : Nat, i ≤ 5 ∧ iv = .int .i64 i ∧ Hid (wr.heap[W.heap.size]? = some (.cells (cpC (s.take i)) 65 (0, 0))) ∧ Hid (W.grownBy wr none)) (fun iv _ => 5 - (intOf iv).toNat)
    case atStart => exact ⟨0, by omega, rfl, HS, HSg⟩
    case round =>
      clear HS HSg
      obtain ⟨i, hi, rfl, HC, HG⟩ := hrel
      by_cases hlt : i < 5
      · have j1 : (i : Int) < 5 := by omega
        have hil : i < s.length := by omega
        have j2 : (i : Int) < s.length := by omega
        have HL := hide (show (s.take i).length ≤ 4 by rw [List.length_take]; omega)
        have hb : ∀ h, (bs s)[i]'h = s[i] := fun h => rfl
        have j3 : ¬ (s[i].toNat : Int) < 128 := by have := HH.out i hil (by omega); omega
        have HZ := hide (List.take_succ_eq_append_getElem hil).symm
        go_wp2_with (go_at_call 53; refine (add_at HC.out HL.out s[i]).mono ?_; rintro e w1 ⟨rfl, h1, h2⟩; rw [HZ.out] at h1; have HC1 := hide h1; have HG1 := hide (grown_own HG.out (Nat.le_refl _) h2); clear h1 h2; obtain ⟨x0, x1, x2, x3, x4, x5⟩ := cp_cells HC1.out; have hf := fun k => free_at (k := k) HC1.out)
        go_roundw
        case rel => exact ⟨i + 1, by omega, by go_num, HC1, HG1⟩
        case measure => simp [intOf]; omega
      · obtain rfl : i = 5 := by omega
        obtain ⟨x0, x1, x2, x3, x4, x5⟩ := cp_cells HC.out
        have hf := fun k => free_at (k := k) HC.out
        go_wp2
        refine bodyPost_ret (v := .tuple #[.agg #[.int .u8 0, .int .u8 0, .int .u8 0, .int .u8 0, .int .u8 0, .int .i64 0], .bool false]) (by simp [results, Try.results44, go_sem, x0, x1, x2, x3, x4, x5]) rfl ⟨rfl, ?_⟩
        exact grown_own HG.out (Nat.le_refl _) (six_g _ _ _ _ _ _ _ _)
set_option maxHeartbeats 1000000 in
theorem cin_yes (W : World) (s : List UInt8) (hs : s.length ≤ 1000000) (n : Nat) (hn : n ≤ 4) (hns : n < s.length) (h : ∀ i (hi : i < s.length), i < n → 128 ≤ s[i].toNat) (hl : s[n].toNat < 128) :
    Calls Try.prog 44 #[.string (bs s)] W fun e W' => e = .returned (.tuple #[.agg (cpC (s.take (n + 1))), .bool true]) ∧ W.grownBy W' none := by
  have HS := hide (show (W.alloc (.cells (cpC []) 65)).heap[W.heap.size]? = some (.cells (cpC []) 65 (0, 0)) from heap_alloc_new _ _)
  have HSg := hide (alloc_g W (.cells (cpC []) 65))
  have HH := hide h
  have hsz := bs_size s
  have HLs := hide hl
  clear h hl
  by_cases hc : s.length ≤ 5
  · have q1 : (s.length : Int) ≤ 5 := by omega
    go_enter Try.func44, Try.ntmps44
    go_wp2
    go_loopw [8] (fun iv wr => ∃ i : Nat, i ≤ n ∧ iv = .int .i64 i ∧ Hid (wr.heap[W.heap.size]? = some (.cells (cpC (s.take i)) 65 (0, 0))) ∧ Hid (W.grownBy wr none)) (fun iv _ => 5 - (intOf iv).toNat)
    case atStart => exact ⟨0, by omega, rfl, HS, HSg⟩
    case round =>
      clear HS HSg
      obtain ⟨i, hi, rfl, HC, HG⟩ := hrel
      have j1 : (i : Int) < s.length := by omega
      have hil : i < s.length := by omega
      have j2 : (i : Int) < s.length := by omega
      have HL := hide (show (s.take i).length ≤ 4 by rw [List.length_take]; omega)
      have hb : ∀ h, (bs s)[i]'h = s[i] := fun h => rfl
      obtain ⟨Z, hZ⟩ : ∃ Z, s.take (i + 1) = Z := ⟨_, rfl⟩
      have HZ := hide ((List.take_succ_eq_append_getElem hil).symm.trans hZ)
      have HZ' := hide hZ
      clear hZ
      by_cases hin : i < n
      · have j3 : ¬ (s[i].toNat : Int) < 128 := by have := HH.out i hil hin; omega
        go_wp2_with (go_at_call 53; refine (add_at HC.out HL.out s[i]).mono ?_; rintro e w1 ⟨rfl, h1, h2⟩; rw [HZ.out] at h1; have HC1 := hide h1; have HG1 := hide (grown_own HG.out (Nat.le_refl _) h2); clear h1 h2; obtain ⟨x0, x1, x2, x3, x4, x5⟩ := cp_cells HC1.out; have hf := fun k => free_at (k := k) HC1.out)
        go_roundw
        case rel => exact ⟨i + 1, by omega, by go_num, hide (by rw [HZ'.out]; exact HC1.out), HG1⟩
        case measure => simp [intOf]; omega
      · obtain rfl : i = n := by omega
        have j3 : (s[i].toNat : Int) < 128 := by have := HLs.out; omega
        go_wp2_with (go_at_call 53; refine (add_at HC.out HL.out s[i]).mono ?_; rintro e w1 ⟨rfl, h1, h2⟩; rw [HZ.out] at h1; have HC1 := hide h1; have HG1 := hide (grown_own HG.out (Nat.le_refl _) h2); clear h1 h2; obtain ⟨x0, x1, x2, x3, x4, x5⟩ := cp_cells HC1.out; have hf := fun k => free_at (k := k) HC1.out)
        refine bodyPost_ret (v := .tuple #[.agg #[.int .u8 (gI Z 0), .int .u8 (gI Z 1), .int .u8 (gI Z 2), .int .u8 (gI Z 3), .int .u8 (gI Z 4), .int .i64 Z.length], .bool true]) (by simp [results, Try.results44, go_sem, x0, x1, x2, x3, x4, x5]) rfl ⟨?_, ?_⟩
        · rw [HZ'.out]; rfl
        · exact grown_own HG1.out (Nat.le_refl _) (six_g _ _ _ _ _ _ _ _)
  · have q1 : (5 : Int) ≤ s.length := by omega
    go_enter Try.func44, Try.ntmps44
    go_wp2
    go_loopw [8] (fun iv wr => ∃ i : Nat, i ≤ n ∧ iv = .int .i64 i ∧ Hid (wr.heap[W.heap.size]? = some (.cells (cpC (s.take i)) 65 (0, 0))) ∧ Hid (W.grownBy wr none)) (fun iv _ => 5 - (intOf iv).toNat)
    case atStart => exact ⟨0, by omega, rfl, HS, HSg⟩
    case round =>
      clear HS HSg
      obtain ⟨i, hi, rfl, HC, HG⟩ := hrel
      have j1 : (i : Int) < 5 := by omega
      have hil : i < s.length := by omega
      have j2 : (i : Int) < s.length := by omega
      have HL := hide (show (s.take i).length ≤ 4 by rw [List.length_take]; omega)
      have hb : ∀ h, (bs s)[i]'h = s[i] := fun h => rfl
      obtain ⟨Z, hZ⟩ : ∃ Z, s.take (i + 1) = Z := ⟨_, rfl⟩
      have HZ := hide ((List.take_succ_eq_append_getElem hil).symm.trans hZ)
      have HZ' := hide hZ
      clear hZ
      by_cases hin : i < n
      · have j3 : ¬ (s[i].toNat : Int) < 128 := by have := HH.out i hil hin; omega
        go_wp2_with (go_at_call 53; refine (add_at HC.out HL.out s[i]).mono ?_; rintro e w1 ⟨rfl, h1, h2⟩; rw [HZ.out] at h1; have HC1 := hide h1; have HG1 := hide (grown_own HG.out (Nat.le_refl _) h2); clear h1 h2; obtain ⟨x0, x1, x2, x3, x4, x5⟩ := cp_cells HC1.out; have hf := fun k => free_at (k := k) HC1.out)
        go_roundw
        case rel => exact ⟨i + 1, by omega, by go_num, hide (by rw [HZ'.out]; exact HC1.out), HG1⟩
        case measure => simp [intOf]; omega
      · obtain rfl : i = n := by omega
        have j3 : (s[i].toNat : Int) < 128 := by have := HLs.out; omega
        go_wp2_with (go_at_call 53; refine (add_at HC.out HL.out s[i]).mono ?_; rintro e w1 ⟨rfl, h1, h2⟩; rw [HZ.out] at h1; have HC1 := hide h1; have HG1 := hide (grown_own HG.out (Nat.le_refl _) h2); clear h1 h2; obtain ⟨x0, x1, x2, x3, x4, x5⟩ := cp_cells HC1.out; have hf := fun k => free_at (k := k) HC1.out)
        refine bodyPost_ret (v := .tuple #[.agg #[.int .u8 (gI Z 0), .int .u8 (gI Z 1), .int .u8 (gI Z 2), .int .u8 (gI Z 3), .int .u8 (gI Z 4), .int .i64 Z.length], .bool true]) (by simp [results, Try.results44, go_sem, x0, x1, x2, x3, x4, x5]) rfl ⟨?_, ?_⟩
        · rw [HZ'.out]; rfl
        · exact grown_own HG1.out (Nat.le_refl _) (six_g _ _ _ _ _ _ _ _)
end Go.Proofs.Ytolfhkcfepkfdaa.Ri
