/-
  Package rider's writer: Byte, Num, Word, Text; of nil, too.
-/
import Derived.Test.YtolfhkcfepkfdaaPw1
import Derived.Test.YtolfhkcfepkfdaaPr2
namespace Go.Proofs.Ytolfhkcfepkfdaa.Ri
open Go.RowKit Go.Proofs.Ytolfhkcfepkfdaa.Tx Go.Proofs.Ytolfhkcfepkfdaa.Bits Go.Proofs.Ytolfhkcfepkfdaa.Bm
set_option linter.unusedVariables false
set_option linter.unusedSimpArgs false
set_option maxRecDepth 100000

/- The bytes behind a put. -/
def nxA (xs : List UInt8) (sp : Bool) (ys : List UInt8) : List UInt8 := if sp = true then xs else xs ++ ys
theorem nxA_nil (xs : List UInt8) (sp : Bool) : nxA xs sp [] = xs := by cases sp <;> simp [nxA]
theorem nxA_then (xs : List UInt8) (sp : Bool) (a b : List UInt8) : nxA (nxA xs sp a) sp b = nxA xs sp (a ++ b) := by cases sp <;> simp [nxA]
theorem nxA_len (xs : List UInt8) (sp : Bool) (a : List UInt8) : (nxA xs sp a).length ≤ xs.length + a.length := by cases sp <;> simp [nxA]
section
variable {W W1 : World} {B q : Nat} {v v1 : Value} {xs ys : List UInt8} {sp : Bool}
theorem put_any (r : Ww W B q v xs sp) (hl : xs.length ≤ 131072) (hB : B ≤ W.heap.size) (ad cp0 : Nat) (ys : List UInt8) (hy : ys.length ≤ 1000) (hc : At8 W ad ys) :
    Calls Try.prog 39 #[.pointer (some ⟨q, 0, none⟩), .slice (some ⟨ad, 0, none⟩) ys.length cp0] W fun e W' => e = .returned (.tuple #[]) ∧ ∃ v', Ww W' B q v' (nxA xs sp ys) sp ∧ Wst W W' q v v' := by
  cases sp
  · exact put_at r hl hB ad cp0 ys hy hc
  · exact (put_sp r _).mono fun e W' ⟨he, hw⟩ => by
      subst hw
      exact ⟨he, v, r, Wst.refl _ _ _⟩
theorem Wst.of_g (h : W.grownBy W1 none) : Wst W W1 q v v := ⟨h.os, h.tape, h.output, h.size, fun i hi _ _ => h.block i hi (by simp), fun _ h => .inl h⟩
theorem put_one (r : Ww W B q v xs sp) (hl : xs.length ≤ 131072) (hB : B ≤ W.heap.size) (c : UInt8) :
    Calls Try.prog 39 #[.pointer (some ⟨q, 0, none⟩), .slice (some ⟨W.heap.size, 0, none⟩) 1 1] (W.alloc (.cells #[.int .u8 (c.toNat : Int)] 5)) fun e W' => e = .returned (.tuple #[]) ∧ ∃ v', Ww W' B q v' (nxA xs sp [c]) sp ∧ Wst W W' q v v' :=
  (put_any (r.kept (alloc_g W _)) hl (by simp; omega) W.heap.size 1 [c] (by simp) (at8_one W c 5)).mono fun e W' ⟨he, v', h1, h2⟩ => ⟨he, v', h1, (Wst.of_g (alloc_g _ _)).then h2⟩
theorem pwbyte (r : Ww W B q v xs sp) (hl : xs.length ≤ 131072) (hB : B ≤ W.heap.size) (b : Int) :
    Calls Try.prog 16 #[.pointer (some ⟨q, 0, none⟩), .int .i64 b] W fun e W' => e = .returned (.tuple #[]) ∧ ∃ v', Ww W' B q v' (nxA xs sp [lo8 b]) sp ∧ Wst W W' q v v' := by
  have HP := hide (put_one r hl hB (lo8 b))
  have hm : b % 256 = ((lo8 b).toNat : Int) := (lo8_val b).symm
  clear r
  go_enter Try.func16, Try.ntmps16
  go_wp2_with (go_at_call 39; refine HP.out.mono ?_; rintro e w1 ⟨rfl, v1, h1, h2⟩; have H1 := hide h1; have S1 := hide h2; clear h1 h2)
  go_end0
  exact ⟨rfl, _, H1.out, S1.out⟩
theorem pwbyte_nil (W : World) (b : Int) : Calls Try.prog 16 #[.pointer none, .int .i64 b] W fun e W' => e = .returned (.tuple #[]) ∧ W.grownBy W' none := by
  go_enter Try.func16, Try.ntmps16
  go_wp2_with (go_at_call 39; refine (put_nil _ _).mono ?_; rintro e w' ⟨rfl, hw⟩; replace hw := hw.symm; subst hw)
  go_end0
  exact ⟨rfl, alloc_g _ _⟩
theorem pwnum_no (r : Ww W B q v xs sp) (n : Int) (h : fitsB n 32 = false) :
    Calls Try.prog 17 #[.pointer (some ⟨q, 0, none⟩), .int .i64 n] W fun e W' => e = .returned (.tuple #[]) ∧ ∃ v', Ww W' B q v' [] true ∧ Wst W W' q v v' := by
  have HS := hide (spoil_at r)
  have HF := hide h
  clear r h
  go_enter Try.func17, Try.ntmps17
  go_wp2_with (first | (go_at_call 40; refine (fits_any n 32 _).mono ?_; rw [HF.out]; rintro e w' ⟨rfl, hw⟩; replace hw := hw.symm; subst hw) | (go_at_call 41; refine HS.out.mono ?_; rintro e w1 ⟨rfl, h1, h2⟩; have H1 := hide h1; have S1 := hide h2; clear h1 h2))
  ((try simp only [Exit.inBlock, Exit.then]); refine bodyPost_ret (results_none rfl _ _ _) rfl ?_)
  exact ⟨rfl, _, H1.out, S1.out⟩
theorem at8_cp {W : World} {X : Nat} {l : List UInt8} {t : TypeId} (h : W.heap[X]? = some (.cells (cpC l) t (0, 0))) (hl : l.length ≤ 5) : At8 W X l := by
  intro j u hj
  have hlt : j < l.length := by have := (List.getElem?_eq_some_iff.1 hj).1; simpa using this
  have k : (⟨X, 0, none⟩ : Addr).add j = ⟨X, j, none⟩ := by unfold Addr.add; split <;> simp_all
  rw [k, cp_at h]
  rw [List.getElem?_map, List.getElem?_eq_getElem hlt] at hj
  simp at hj
  subst hj
  have hg : gI l j = (l[j].toNat : Int) := by unfold gI; simp [List.getD, List.getElem?_eq_getElem hlt]
  rw [b8, ← hg]
  rcases (by omega : j = 0 ∨ j = 1 ∨ j = 2 ∨ j = 3 ∨ j = 4) with rfl | rfl | rfl | rfl | rfl <;> rfl
set_option maxHeartbeats 1000000 in
theorem pwnum_yes (r : Ww W B q v xs sp) (hl : xs.length ≤ 131072) (hB : B ≤ W.heap.size) (n : Int) (h : fitsB n 32 = true) :
    Calls Try.prog 17 #[.pointer (some ⟨q, 0, none⟩), .int .i64 n] W fun e W' => e = .returned (.tuple #[]) ∧ ∃ v', Ww W' B q v' (nxA xs sp (numL n)) sp ∧ Wst W W' q v v' := by
  have HR := hide r
  have HF := hide h
  have hco := compact_of W n h
  have h5 : (numL n).length ≤ 5 := numF_len 4 n
  generalize numL n = l at hco h5
  unfold cpC at hco
  have HCO := hide hco
  have h5' : (l.length : Int) ≤ 5 := by omega
  have H5 := hide h5
  have HL := hide hl
  clear r h hco h5 hl
  go_enter Try.func17, Try.ntmps17
  go_wp2_with (first
    | (go_at_call 40; refine (fits_any n 32 _).mono ?_; rw [HF.out]; rintro e w' ⟨rfl, hw⟩; replace hw := hw.symm; subst hw)
    | (go_at_call 42; refine HCO.out.mono ?_; rintro e w1 ⟨rfl, h1⟩; obtain ⟨V, hV⟩ : ∃ V, w1.alloc (.cells #[.int .u8 (gI l 0), .int .u8 (gI l 1), .int .u8 (gI l 2), .int .u8 (gI l 3), .int .u8 (gI l 4), .int .i64 l.length] 65) = V := ⟨_, rfl⟩; have CV := hide (show V.heap[w1.heap.size]? = some (.cells (cpC l) 65 (0, 0)) by rw [← hV]; exact heap_alloc_new _ _); have gv : w1.grownBy V none := (by rw [← hV]; exact alloc_g _ _); have GV := hide (grown_trans h1 gv); clear h1 gv; obtain ⟨x0, x1, x2, x3, x4, x5⟩ := cp_cells CV.out)
    | (go_at_call 39; refine (put_any (HR.out.kept GV.out) HL.out (Nat.le_trans hB GV.out.size) w1.heap.size 5 l (by have := H5.out; omega) (at8_cp CV.out H5.out)).mono ?_; rintro e w2 ⟨rfl, v1, h1, h2⟩; have H1 := hide h1; have S1 := hide ((Wst.of_g GV.out).then h2); clear h1 h2))
  go_end0
  exact ⟨rfl, _, H1.out, S1.out⟩
theorem pwnum_nil (W : World) (n : Int) : Calls Try.prog 17 #[.pointer none, .int .i64 n] W fun e W' => e = .returned (.tuple #[]) ∧ W.grownBy W' none := by
  cases h : fitsB n 32
  · have HF := hide h
    clear h
    go_enter Try.func17, Try.ntmps17
    go_wp2_with (first
      | (go_at_call 40; refine (fits_any n 32 _).mono ?_; rw [HF.out]; rintro e w' ⟨rfl, hw⟩; replace hw := hw.symm; subst hw)
      | (go_at_call 41; refine (spoil_nil _).mono ?_; rintro e w' ⟨rfl, hw⟩; replace hw := hw.symm; subst hw))
    ((try simp only [Exit.inBlock, Exit.then]); refine bodyPost_ret (results_none rfl _ _ _) rfl ?_)
    exact ⟨rfl, ⟨rfl, rfl, rfl, Nat.le_refl _, fun _ _ _ => rfl⟩⟩
  · have HF := hide h
    have hco := compact_of W n h
    have h5 : (numL n).length ≤ 5 := numF_len 4 n
    generalize numL n = l at hco h5
    unfold cpC at hco
    have HCO := hide hco
    have h5' : (l.length : Int) ≤ 5 := by omega
    clear h hco h5
    go_enter Try.func17, Try.ntmps17
    go_wp2_with (first
      | (go_at_call 40; refine (fits_any n 32 _).mono ?_; rw [HF.out]; rintro e w' ⟨rfl, hw⟩; replace hw := hw.symm; subst hw)
      | (go_at_call 42; refine HCO.out.mono ?_; rintro e w1 ⟨rfl, h1⟩; obtain ⟨V, hV⟩ : ∃ V, w1.alloc (.cells #[.int .u8 (gI l 0), .int .u8 (gI l 1), .int .u8 (gI l 2), .int .u8 (gI l 3), .int .u8 (gI l 4), .int .i64 l.length] 65) = V := ⟨_, rfl⟩; have CV := hide (show V.heap[w1.heap.size]? = some (.cells (cpC l) 65 (0, 0)) by rw [← hV]; exact heap_alloc_new _ _); have gv : w1.grownBy V none := (by rw [← hV]; exact alloc_g _ _); have GV := hide (grown_trans h1 gv); clear h1 gv; obtain ⟨x0, x1, x2, x3, x4, x5⟩ := cp_cells CV.out)
      | (go_at_call 39; refine (put_nil _ _).mono ?_; rintro e w' ⟨rfl, hw⟩; replace hw := hw.symm; subst hw))
    go_end0
    exact ⟨rfl, GV.out⟩
theorem by_step (x : Int) (x0 : 0 ≤ x) (x1 : x < 4294967296) (i : Nat) (hi : i < 4) : x / 256 ^ i % 256 = ((byI x i).toNat : Int) := by
  unfold byI
  rw [lo8_val]
  unfold getI
  rw [if_pos (by omega)]
  obtain ⟨X, rfl⟩ := Int.eq_ofNat_of_zero_le x0
  unfold getN
  rcases (by omega : i = 0 ∨ i = 1 ∨ i = 2 ∨ i = 3) with rfl | rfl | rfl | rfl
  · simp
  · simp
  · simp
  · simp
set_option maxHeartbeats 2000000 in
theorem pwword (r : Ww W B q v xs sp) (hl : xs.length ≤ 100000) (hB : B ≤ W.heap.size) (x : Int) (x0 : 0 ≤ x) (x1 : x < 4294967296) :
    Calls Try.prog 18 #[.pointer (some ⟨q, 0, none⟩), .int .u32 x] W fun e W' => e = .returned (.tuple #[]) ∧ ∃ v', Ww W' B q v' (nxA xs sp (wordL x)) sp ∧ Wst W W' q v v' := by
  have HR := hide r
  have HL := hide hl
  clear r hl
  go_enter Try.func18, Try.ntmps18
  go_wp2
  go_loopw [1, 4] (fun xv iv wr => ∃ (i : Nat) (v' : Value), i ≤ 4 ∧ xv = .int .u32 (x / 256 ^ i) ∧ iv = .int .i64 i ∧ Hid (Ww wr B q v' (nxA xs sp ((wordL x).take i)) sp) ∧ Hid (Wst W wr q v v')) (fun _ iv _ => 4 - (intOf iv).toNat)
  case atStart => exact ⟨0, v, by omega, by simp, rfl, hide (by rw [List.take_zero, nxA_nil]; exact HR.out), hide (Wst.refl _ _ _)⟩
  case round =>
    obtain ⟨i, v', hi, rfl, rfl, HW, HS⟩ := hrel
    have hBr : B ≤ wr.heap.size := Nat.le_trans hB HS.out.size
    by_cases h4 : i < 4
    · have j1 : (i : Int) < 4 := by omega
      have hby := by_step x x0 x1 i h4
      have HX := hide (show x / 256 ^ i / 256 = x / 256 ^ (i + 1) by rw [Int.pow_succ, Int.ediv_ediv_of_nonneg (Int.pow_nonneg (by decide))])
      have HT := hide (show (wordL x).take (i + 1) = (wordL x).take i ++ [byI x i] by
        rcases (by omega : i = 0 ∨ i = 1 ∨ i = 2 ∨ i = 3) with rfl | rfl | rfl | rfl <;> rfl)
      have HLn := hide (show (nxA xs sp ((wordL x).take i)).length ≤ 131072 by have := HL.out; have := nxA_len xs sp ((wordL x).take i); have := List.length_take_le i (wordL x); omega)
      have y0 : 0 ≤ x / 256 ^ i ∧ x / 256 ^ i < 4294967296 := by
        rw [show (256 : Int) ^ i = 2 ^ (8 * i) by rw [Int.pow_mul]; rfl]
        exact div_range x (8 * i) x0 x1
      obtain ⟨X, hX⟩ : ∃ X, x / 256 ^ i = X := ⟨_, rfl⟩
      rw [hX] at hby y0 HX ⊢
      clear hX
      have HP := hide (put_one HW.out HLn.out hBr (byI x i))
      go_wp2_with (go_at_call 39; refine HP.out.mono ?_; rintro e w2 ⟨rfl, v2, h1, h2⟩; have HW1 := hide h1; have HS1 := hide (HS.out.then h2); clear h1 h2)
      go_roundw
      case rel => exact ⟨i + 1, v2, by omega, by rw [← HX.out], by go_num, hide (by rw [HT.out, ← nxA_then]; exact HW1.out), HS1⟩
      case measure => simp [intOf]; omega
    · obtain rfl : i = 4 := by omega
      go_wp2
      go_end0
      exact ⟨rfl, v', HW.out, HS.out⟩
theorem pwword_nil (W : World) (x : Int) (x0 : 0 ≤ x) (x1 : x < 4294967296) :
    Calls Try.prog 18 #[.pointer none, .int .u32 x] W fun e W' => e = .returned (.tuple #[]) ∧ W.grownBy W' none := by
  go_enter Try.func18, Try.ntmps18
  go_wp2
  go_loopw [1, 4] (fun xv iv wr => ∃ (i : Nat) (y : Int), i ≤ 4 ∧ 0 ≤ y ∧ y < 4294967296 ∧ xv = .int .u32 y ∧ iv = .int .i64 i ∧ Hid (W.grownBy wr none)) (fun _ iv _ => 4 - (intOf iv).toNat)
  case atStart => exact ⟨0, x, by omega, x0, x1, rfl, rfl, hide ⟨rfl, rfl, rfl, Nat.le_refl _, fun _ _ _ => rfl⟩⟩
  case round =>
    obtain ⟨i, y, hi, y0, y1, rfl, rfl, HG⟩ := hrel
    by_cases h4 : i < 4
    · have j1 : (i : Int) < 4 := by omega
      go_wp2_with (go_at_call 39; refine (put_nil _ _).mono ?_; rintro e w' ⟨rfl, hw⟩; replace hw := hw.symm; subst hw)
      go_roundw
      case rel => exact ⟨i + 1, y / 256, by omega, by omega, by omega, by go_num, by go_num, hide (grown_trans HG.out (alloc_g _ _))⟩
      case measure => simp [intOf]; omega
    · obtain rfl : i = 4 := by omega
      go_wp2
      go_end0
      exact ⟨rfl, HG.out⟩
end
end Go.Proofs.Ytolfhkcfepkfdaa.Ri
