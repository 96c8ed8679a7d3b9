/-
  The document's own constants (package spinetref12): integer, truth, set, none, Relate, order, SetOp, Char.
-/
import Derived.Test.YtgdpcdpkaaefbaaCn20
import Derived.Test.YtgdpcdpkaaefbaaRef
namespace Go.Proofs.Ytgdpcdpkaaefbaa.Cn
open Go.RowKit hiding Hid
open Go.Maps Go.Proofs.Ytgdpcdpkaaefbaa.Tx Go.Proofs.Ytgdpcdpkaaefbaa.Lx Go.Proofs.Ytgdpcdpkaaefbaa.Mp Go.Proofs.Ytgdpcdpkaaefbaa.Bits Go.Proofs.Ytgdpcdpkaaefbaa.Tr Go.Proofs.Ytgdpcdpkaaefbaa.Bm
set_option linter.unusedVariables false
set_option linter.unusedSimpArgs false
set_option maxRecDepth 100000

set_option maxHeartbeats 1600000 in
theorem rinteger_at (n : Int) (w : World) : Calls Try.prog 27 #[.int .i64 n] w (Told w (rsV (intR n))) := by
  have HC := hide (Cx.start w (fun _ => False))
  cases hI : inR n with
  | true =>
    have HI := hide hI
    clear hI
    go_enter Try.func27, Try.ntmps27
    go_wp2_with (first | (refine at_alloc 23 rfl ?_; refine wl_alloc rfl 23 rfl _ zV HC.out ?_; intro b w' hn hc; (replace HC := hide hc; clear hc)) | (go_at_call 33; refine (rfits_any _ _ _).mono ?_; rw [fits32, HI.out]; rintro e w2 ⟨rfl, rfl⟩) | (refine at_store 23 rfl ?_; refine wl_store rfl 23 _ _ rfl rfl rfl tyV.sz rfl HC.out (by repeat (first | exact List.Mem.head _ | apply List.Mem.tail)) (by exact PutS.all _ _ rfl) (by repeat (first | exact Upd.here _ _ _ | apply Upd.there)) ?_; intro w' hc; (replace HC := hide hc; clear hc)))
    refine ret_two Try.results27 rfl rfl HC.out (by repeat (first | exact List.Mem.head _ | apply List.Mem.tail)) tyV rfl ?_
    exact ⟨by rw [intR_yes HI.out]; rfl, HC.out.grown⟩
  | false =>
    have HI := hide hI
    clear hI
    go_enter Try.func27, Try.ntmps27
    go_wp2_with (first | (refine at_alloc 23 rfl ?_; refine wl_alloc rfl 23 rfl _ zV HC.out ?_; intro b w' hn hc; (replace HC := hide hc; clear hc)) | (go_at_call 33; refine (rfits_any _ _ _).mono ?_; rw [fits32, HI.out]; rintro e w2 ⟨rfl, rfl⟩) | (refine at_store 23 rfl ?_; refine wl_store rfl 23 _ _ rfl rfl rfl tyV.sz rfl HC.out (by repeat (first | exact List.Mem.head _ | apply List.Mem.tail)) (by exact PutS.all _ _ rfl) (by repeat (first | exact Upd.here _ _ _ | apply Upd.there)) ?_; intro w' hc; (replace HC := hide hc; clear hc)))
    refine ret_two Try.results27 rfl rfl HC.out (by repeat (first | exact List.Mem.head _ | apply List.Mem.tail)) tyV rfl ?_
    exact ⟨by rw [intR_no HI.out]; rfl, HC.out.grown⟩
set_option maxHeartbeats 1600000 in
theorem rtruth_at (b : Bool) (w : World) : Calls Try.prog 29 #[.bool b] w (Told w (rsV (bolR b))) := by
  have HC := hide (Cx.start w (fun _ => False))
  cases b with
  | true =>
    go_enter Try.func29, Try.ntmps29
    go_wp2_with (first | (refine at_alloc 23 rfl ?_; refine wl_alloc rfl 23 rfl _ zV HC.out ?_; intro b w' hn hc; (replace HC := hide hc; clear hc)) | (refine at_store 23 rfl ?_; refine wl_store rfl 23 _ _ rfl rfl rfl tyV.sz rfl HC.out (by repeat (first | exact List.Mem.head _ | apply List.Mem.tail)) (by exact PutS.all _ _ rfl) (by repeat (first | exact Upd.here _ _ _ | apply Upd.there)) ?_; intro w' hc; (replace HC := hide hc; clear hc)))
    refine ret_two Try.results29 rfl rfl HC.out (by repeat (first | exact List.Mem.head _ | apply List.Mem.tail)) tyV rfl ?_
    exact ⟨rfl, HC.out.grown⟩
  | false =>
    go_enter Try.func29, Try.ntmps29
    go_wp2_with (first | (refine at_alloc 23 rfl ?_; refine wl_alloc rfl 23 rfl _ zV HC.out ?_; intro b w' hn hc; (replace HC := hide hc; clear hc)) | (refine at_store 23 rfl ?_; refine wl_store rfl 23 _ _ rfl rfl rfl tyV.sz rfl HC.out (by repeat (first | exact List.Mem.head _ | apply List.Mem.tail)) (by exact PutS.all _ _ rfl) (by repeat (first | exact Upd.here _ _ _ | apply Upd.there)) ?_; intro w' hc; (replace HC := hide hc; clear hc)))
    refine ret_two Try.results29 rfl rfl HC.out (by repeat (first | exact List.Mem.head _ | apply List.Mem.tail)) tyV rfl ?_
    exact ⟨rfl, HC.out.grown⟩
set_option maxHeartbeats 1600000 in
theorem rset_at (x : Int) (h0 : 0 ≤ x) (h1 : x < 4294967296) (w : World) : Calls Try.prog 28 #[.int .u32 x] w (Told w (rsV (setR x))) := by
  have HC := hide (Cx.start w (fun _ => False))
  go_enter Try.func28, Try.ntmps28
  go_wp2_with (first | (refine at_alloc 23 rfl ?_; refine wl_alloc rfl 23 rfl _ zV HC.out ?_; intro b w' hn hc; (replace HC := hide hc; clear hc)) | (refine at_store 23 rfl ?_; refine wl_store rfl 23 _ _ rfl rfl rfl tyV.sz rfl HC.out (by repeat (first | exact List.Mem.head _ | apply List.Mem.tail)) (by exact PutS.all _ _ rfl) (by repeat (first | exact Upd.here _ _ _ | apply Upd.there)) ?_; intro w' hc; (replace HC := hide hc; clear hc)))
  refine ret_two Try.results28 rfl rfl HC.out (by repeat (first | exact List.Mem.head _ | apply List.Mem.tail)) tyV rfl ?_
  exact ⟨rfl, HC.out.grown⟩
set_option maxHeartbeats 1600000 in
theorem rnone_at (w : World) : Calls Try.prog 30 #[] w (Told w (rsV noR)) := by
  have HC := hide (Cx.start w (fun _ => False))
  go_enter Try.func30, Try.ntmps30
  go_wp2_with (first | (refine at_alloc 23 rfl ?_; refine wl_alloc rfl 23 rfl _ zV HC.out ?_; intro b w' hn hc; (replace HC := hide hc; clear hc)) | (refine at_store 23 rfl ?_; refine wl_store rfl 23 _ _ rfl rfl rfl tyV.sz rfl HC.out (by repeat (first | exact List.Mem.head _ | apply List.Mem.tail)) (by exact PutS.all _ _ rfl) (by repeat (first | exact Upd.here _ _ _ | apply Upd.there)) ?_; intro w' hc; (replace HC := hide hc; clear hc)))
  refine ret_two Try.results30 rfl rfl HC.out (by repeat (first | exact List.Mem.head _ | apply List.Mem.tail)) tyV rfl ?_
  exact ⟨rfl, HC.out.grown⟩
def relP (s : List UInt8) (o : Int) : Bool × Bool := if s = [61] then (o == 0, true) else if s = [35] then (o != 0, true) else if s = [60] then (decide (o < 0), true) else if s = [60, 61] then (decide (o ≤ 0), true) else if s = [62] then (decide (0 < o), true) else if s = [62, 61] then (decide (0 ≤ o), true) else (false, false)
theorem tE_t {s L : List UInt8} (h : ((bs s).toList == L) = true) : s = L := by rw [bs_toList] at h; exact eq_of_beq h
theorem tE_f {s L : List UInt8} (h : ((bs s).toList == L) = false) : ¬ s = L := by rw [bs_toList] at h; simpa using h
theorem tE_tt {s L : List UInt8} (h : s = L) : ((bs s).toList == L) = true := by rw [bs_toList, h]; exact beq_self_eq_true L
theorem tE_ff {s L : List UInt8} (h : ¬ s = L) : ((bs s).toList == L) = false := by rw [bs_toList]; simpa using h
set_option maxHeartbeats 3200000 in
theorem relate_at (s : List UInt8) (o : Int) (w : World) : Calls Try.prog 40 #[.string (bs s), .int .i64 o] w fun e w' => e = .returned (.tuple #[.bool (relP s o).1, .bool (relP s o).2]) ∧ w' = w := by
  by_cases h1 : s = [61]
  · rw [show relP s o = (o == 0, true) from if_pos h1]; have k1 := tE_tt h1; clear h1; (go_enter Try.func40, Try.ntmps40; go_wp2; exact bodyPost_ret (results_tmp2 rfl _ _ _) rfl ⟨rfl, rfl⟩)
  have k1 := tE_ff h1
  by_cases h2 : s = [35]
  · rw [show relP s o = (o != 0, true) by unfold relP; rw [if_neg h1, if_pos h2]]; have k2 := tE_tt h2; clear h1 h2; (go_enter Try.func40, Try.ntmps40; go_wp2; exact bodyPost_ret (results_tmp2 rfl _ _ _) rfl ⟨rfl, rfl⟩)
  have k2 := tE_ff h2
  by_cases h3 : s = [60]
  · rw [show relP s o = (decide (o < 0), true) by unfold relP; rw [if_neg h1, if_neg h2, if_pos h3]]; have k3 := tE_tt h3; clear h1 h2 h3; (go_enter Try.func40, Try.ntmps40; go_wp2; exact bodyPost_ret (results_tmp2 rfl _ _ _) rfl ⟨rfl, rfl⟩)
  have k3 := tE_ff h3
  by_cases h4 : s = [60, 61]
  · rw [show relP s o = (decide (o ≤ 0), true) by unfold relP; rw [if_neg h1, if_neg h2, if_neg h3, if_pos h4]]; have k4 := tE_tt h4; clear h1 h2 h3 h4; (go_enter Try.func40, Try.ntmps40; go_wp2; exact bodyPost_ret (results_tmp2 rfl _ _ _) rfl ⟨rfl, rfl⟩)
  have k4 := tE_ff h4
  by_cases h5 : s = [62]
  · rw [show relP s o = (decide (0 < o), true) by unfold relP; rw [if_neg h1, if_neg h2, if_neg h3, if_neg h4, if_pos h5]]; have k5 := tE_tt h5; clear h1 h2 h3 h4 h5; (go_enter Try.func40, Try.ntmps40; go_wp2; exact bodyPost_ret (results_tmp2 rfl _ _ _) rfl ⟨rfl, rfl⟩)
  have k5 := tE_ff h5
  by_cases h6 : s = [62, 61]
  · rw [show relP s o = (decide (0 ≤ o), true) by unfold relP; rw [if_neg h1, if_neg h2, if_neg h3, if_neg h4, if_neg h5, if_pos h6]]; have k6 := tE_tt h6; clear h1 h2 h3 h4 h5 h6; (go_enter Try.func40, Try.ntmps40; go_wp2; exact bodyPost_ret (results_tmp2 rfl _ _ _) rfl ⟨rfl, rfl⟩)
  have k6 := tE_ff h6
  rw [show relP s o = (false, false) by unfold relP; rw [if_neg h1, if_neg h2, if_neg h3, if_neg h4, if_neg h5, if_neg h6]]; clear h1 h2 h3 h4 h5 h6; (go_enter Try.func40, Try.ntmps40; go_wp2; exact bodyPost_ret (results_tmp2 rfl _ _ _) rfl ⟨rfl, rfl⟩)
/- Two texts' order. -/
theorem cmp3 : ∀ (a b : List UInt8), (Op.bytesLess a b = true ∧ Lib.compareBytes a b = -1) ∨ (Op.bytesLess a b = false ∧ (a == b) = false ∧ Lib.compareBytes a b = 1) ∨ (Op.bytesLess a b = false ∧ (a == b) = true ∧ Lib.compareBytes a b = 0)
  | [], [] => .inr (.inr ⟨rfl, rfl, rfl⟩)
  | [], _ :: _ => .inl ⟨rfl, rfl⟩
  | _ :: _, [] => .inr (.inl ⟨rfl, rfl, rfl⟩)
  | x :: a, y :: b => by
    by_cases h1 : x < y
    · exact .inl ⟨by simp [Op.bytesLess, h1], by simp [Lib.compareBytes, h1]⟩
    · by_cases h2 : y < x
      · have hne : ¬ x = y := fun e => by subst e; exact absurd h2 h1
        exact .inr (.inl ⟨by simp [Op.bytesLess, h1, hne], by simp [hne], by simp [Lib.compareBytes, h1, h2]⟩)
      · have e : x = y := UInt8.le_antisymm (UInt8.not_lt.1 h2) (UInt8.not_lt.1 h1)
        subst e
        have k1 : Op.bytesLess (x :: a) (x :: b) = Op.bytesLess a b := by simp [Op.bytesLess]
        have k2 : (x :: a == x :: b) = (a == b) := by simp
        have k3 : Lib.compareBytes (x :: a) (x :: b) = Lib.compareBytes a b := by simp [Lib.compareBytes]
        rw [k1, k2, k3]
        exact cmp3 a b
set_option maxHeartbeats 3200000 in
theorem rorder_at (a b : List UInt8) (w : World) : Calls Try.prog 39 #[.string (bs a), .string (bs b)] w fun e w' => e = .returned (.int .i64 (Lib.compareBytes a b)) ∧ w' = w := by
  rcases cmp3 a b with ⟨h1, h2⟩ | ⟨h1, h3, h2⟩ | ⟨h1, h3, h2⟩
  · rw [h2]
    rw [← bs_toList a, ← bs_toList b] at h1
    clear h2
    go_enter Try.func39, Try.ntmps39
    go_wp2
    go_ret
    exact ⟨rfl, rfl⟩
  · rw [h2]
    rw [← bs_toList a, ← bs_toList b] at h1 h3
    clear h2
    go_enter Try.func39, Try.ntmps39
    go_wp2
    go_ret
    exact ⟨rfl, rfl⟩
  · rw [h2]
    rw [← bs_toList a, ← bs_toList b] at h1 h3
    clear h2
    go_enter Try.func39, Try.ntmps39
    go_wp2
    go_ret
    exact ⟨rfl, rfl⟩
def sopP (s : List UInt8) (a b : Int) : Int × Bool := if s = [43] then (Go.bits .or .u32 a b, true) else if s = [45] then (Go.bits .andNot .u32 a b, true) else if s = [42] then (Go.bits .and .u32 a b, true) else if s = [47] then (Go.bits .xor .u32 a b, true) else (0, false)
set_option maxHeartbeats 3200000 in
theorem setop_at (s : List UInt8) (a b : Int) (w : World) : Calls Try.prog 42 #[.string (bs s), .int .u32 a, .int .u32 b] w fun e w' => e = .returned (.tuple #[.int .u32 (sopP s a b).1, .bool (sopP s a b).2]) ∧ w' = w := by
  by_cases h1 : s = [43]
  · rw [show sopP s a b = (Go.bits .or .u32 a b, true) from if_pos h1]; have k1 := tE_tt h1; clear h1; (go_enter Try.func42, Try.ntmps42; go_wp2; exact bodyPost_ret (results_tmp2 rfl _ _ _) rfl ⟨rfl, rfl⟩)
  have k1 := tE_ff h1
  by_cases h2 : s = [45]
  · rw [show sopP s a b = (Go.bits .andNot .u32 a b, true) by unfold sopP; rw [if_neg h1, if_pos h2]]; have k2 := tE_tt h2; clear h1 h2; (go_enter Try.func42, Try.ntmps42; go_wp2; exact bodyPost_ret (results_tmp2 rfl _ _ _) rfl ⟨rfl, rfl⟩)
  have k2 := tE_ff h2
  by_cases h3 : s = [42]
  · rw [show sopP s a b = (Go.bits .and .u32 a b, true) by unfold sopP; rw [if_neg h1, if_neg h2, if_pos h3]]; have k3 := tE_tt h3; clear h1 h2 h3; (go_enter Try.func42, Try.ntmps42; go_wp2; exact bodyPost_ret (results_tmp2 rfl _ _ _) rfl ⟨rfl, rfl⟩)
  have k3 := tE_ff h3
  by_cases h4 : s = [47]
  · rw [show sopP s a b = (Go.bits .xor .u32 a b, true) by unfold sopP; rw [if_neg h1, if_neg h2, if_neg h3, if_pos h4]]; have k4 := tE_tt h4; clear h1 h2 h3 h4; (go_enter Try.func42, Try.ntmps42; go_wp2; exact bodyPost_ret (results_tmp2 rfl _ _ _) rfl ⟨rfl, rfl⟩)
  have k4 := tE_ff h4
  rw [show sopP s a b = (0, false) by unfold sopP; rw [if_neg h1, if_neg h2, if_neg h3, if_neg h4]]; clear h1 h2 h3 h4; (go_enter Try.func42, Try.ntmps42; go_wp2; exact bodyPost_ret (results_tmp2 rfl _ _ _) rfl ⟨rfl, rfl⟩)
def chV (v : Vl) : Vl := if v.f = 6 ∧ v.t.length = 1 then ⟨3, (v.t.headD 0).toNat, []⟩ else v
set_option maxHeartbeats 2000000 in
theorem rchar_at (a : Vl) (hl : a.t.length ≤ 9223372036854775807) (w : World) : Calls Try.prog 37 #[vV a] w (Told w (vV (chV a))) := by
  obtain ⟨f, n, t⟩ := a
  dsimp only at hl
  have hz := bs_size t
  have hl' : (t.length : Int) ≤ 9223372036854775807 := by omega
  unfold chV
  dsimp only
  by_cases h6 : f = 6
  · subst h6
    by_cases h1 : t.length = 1
    · rw [if_pos ⟨rfl, h1⟩]
      obtain ⟨c, rfl⟩ := List.length_eq_one_iff.1 h1
      have hb : ∀ h, (bs [c])[0]'h = c := fun h => rfl
      have k1 : ((([c] : List UInt8).length : Int) == 1) = true := rfl
      have hw : wrap64 (c.toNat : Int) = c.toNat := IntWalk.wrap64_in _ (by have := c.toNat_lt; constructor <;> omega)
      unfold vV
      (go_enter Try.func37, Try.ntmps37; go_wp2)
      refine bodyPost_ret (v := .agg #[.int .i64 3, .int .i64 c.toNat, .string (bs [])]) (by simp [results, Try.results37, go_sem, hw]; rfl) rfl ?_
      exact ⟨rfl, (gal (gal (gr_ref _ none) _) _)⟩
    · rw [if_neg (fun h => h1 h.2)]
      have k1 : ((t.length : Int) == 1) = false := by simp; omega
      unfold vV
      (go_enter Try.func37, Try.ntmps37; go_wp2)
      refine bodyPost_ret (v := .agg #[.int .i64 6, .int .i64 n, .string (bs t)]) (by simp [results, Try.results37, go_sem]) rfl ?_
      exact ⟨rfl, (gal (gal (gr_ref _ none) _) _)⟩
  · rw [if_neg (fun h => h6 h.1)]
    have k6 : (f == 6) = false := by simpa using h6
    clear h6
    unfold vV
    (go_enter Try.func37, Try.ntmps37; go_wp2)
    refine bodyPost_ret (v := .agg #[.int .i64 f, .int .i64 n, .string (bs t)]) (by simp [results, Try.results37, go_sem]) rfl ?_
    exact ⟨rfl, (gal (gal (gr_ref _ none) _) _)⟩
end Go.Proofs.Ytgdpcdpkaaefbaa.Cn
