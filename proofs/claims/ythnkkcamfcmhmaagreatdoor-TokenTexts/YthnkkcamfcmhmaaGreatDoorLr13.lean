/-
  The document's own tokens (package spinetref09): One.
-/
import Derived.Test.YthnkkcamfcmhmaaGreatDoorLr12
namespace Go.Proofs.YthnkkcamfcmhmaaGreatDoor.Lx
open Go.RowKit Go.Proofs.YthnkkcamfcmhmaaGreatDoor.Tx
set_option linter.unusedVariables false
set_option linter.unusedSimpArgs false
set_option maxRecDepth 100000

/- A token as it stands. -/
def oneS (t : Tk) : List UInt8 :=
  if t.k = 3 then (if t.n < 0 then hexT (t.n + 4294967296).toNat true ++ [72] else decN t.n.toNat)
  else if t.k = 4 then hexT t.n.toNat false ++ [88]
  else if t.k = 5 then 34 :: (t.t ++ [34])
  else t.t
theorem hexT_len (n : Nat) (al : Bool) : (hexT n al).length ≤ 10 := by
  have := hxN_len n
  unfold hexT
  split
  · simp; omega
  · omega
set_option maxHeartbeats 2000000 in
theorem One_x (k n a : Int) (t : List UInt8) (w : World) (h3 : k ≠ 3) (h4 : k ≠ 4) (h5 : k ≠ 5) : Calls Tryz.prog 17 #[.agg #[.int .i64 k, .string (bs t), .int .i64 n, .int .i64 a]] w fun e w' => e = .returned (.string (bs t)) ∧ w.grownBy w' none := by
  have e3 : (k == 3) = false := by simpa using h3
  have e4 : (k == 4) = false := by simpa using h4
  have e5 : (k == 5) = false := by simpa using h5
  clear h3 h4 h5
  go_enter Tryz.func17, Tryz.ntmps17
  go_wp2
  go_ret
  exact ⟨rfl, alloc_g _ _⟩
set_option maxHeartbeats 2000000 in
theorem One_5 (n a : Int) (t : List UInt8) (w : World) (ht : t.length ≤ 64) : Calls Tryz.prog 17 #[.agg #[.int .i64 5, .string (bs t), .int .i64 n, .int .i64 a]] w fun e w' => e = .returned (.string (bs (34 :: (t ++ [34])))) ∧ w.grownBy w' none := by
  have b34 : (⟨#[34]⟩ : ByteArray) = bs [34] := rfl
  have hadd : ∀ W : World, (Op.stringOp .add (bs [34]) (bs t)).run Tryz.prog W = .ok (.string (bs (34 :: t))) W := fun W => by
    rw [run_string_add_sum W _ _ (by rw [bs_size, bs_size]; simp; omega), bs_append]
    rfl
  have hadd2 : ∀ W : World, (Op.stringOp .add (bs (34 :: t)) (bs [34])).run Tryz.prog W = .ok (.string (bs (34 :: (t ++ [34])))) W := fun W => by
    rw [run_string_add_sum W _ _ (by rw [bs_size, bs_size]; simp; omega), bs_append]
    rfl
  clear ht
  go_enter Tryz.func17, Tryz.ntmps17
  go_wp2
  go_ret
  exact ⟨rfl, alloc_g _ _⟩
set_option maxHeartbeats 2000000 in
theorem One_4 (m : Nat) (a : Int) (t : List UInt8) (w : World) (hm : m < 256) : Calls Tryz.prog 17 #[.agg #[.int .i64 4, .string (bs t), .int .i64 m, .int .i64 a]] w fun e w' => e = .returned (.string (bs (hexT m false ++ [88]))) ∧ w.grownBy w' none := by
  have b88 : (⟨#[88]⟩ : ByteArray) = bs [88] := rfl
  have HH := hide (fun W => hex_at m false W (by omega))
  obtain ⟨x, hx⟩ : ∃ x, hexT m false = x := ⟨_, rfl⟩
  have hxl := hexT_len m false
  rw [hx] at HH hxl ⊢
  have hadd2 : ∀ W : World, (Op.stringOp .add (bs x) (bs [88])).run Tryz.prog W = .ok (.string (bs (x ++ [88]))) W := fun W => by
    rw [run_string_add_sum W _ _ (by rw [bs_size, bs_size]; simp; omega), bs_append]
  clear hm hx
  go_enter Tryz.func17, Tryz.ntmps17
  go_wp2_with (go_at_call 29; refine (HH.out _).mono ?_; rintro e w' ⟨rfl, hw⟩; replace hw := hw.symm; subst hw)
  go_ret
  exact ⟨rfl, alloc_g _ _⟩
set_option maxHeartbeats 2000000 in
theorem One_3p (m : Nat) (a : Int) (t : List UInt8) (w : World) (hm : m < 2147483648) : Calls Tryz.prog 17 #[.agg #[.int .i64 3, .string (bs t), .int .i64 m, .int .i64 a]] w fun e w' => e = .returned (.string (bs (decN m))) ∧ w.grownBy w' none := by
  have HH := hide (fun W => dec_nat 10 (by decide) m (by show m < 100000000000; omega) W)
  obtain ⟨M, hM⟩ : ∃ M : Int, (m : Int) = M := ⟨_, rfl⟩
  have h0 : 0 ≤ M := by omega
  rw [hM] at HH ⊢
  clear hm hM
  go_enter Tryz.func17, Tryz.ntmps17
  go_wp2_with (go_at_call 30; refine (HH.out _).mono ?_; rintro e w1 ⟨rfl, hg⟩; have HG := hide hg; clear hg)
  go_ret
  exact ⟨rfl, grown_trans (alloc_g _ _) HG.out⟩
set_option maxHeartbeats 2000000 in
theorem One_3n (n a : Int) (t : List UInt8) (w : World) (h1 : -2147483648 ≤ n) (h2 : n < 0) : Calls Tryz.prog 17 #[.agg #[.int .i64 3, .string (bs t), .int .i64 n, .int .i64 a]] w fun e w' => e = .returned (.string (bs (hexT (n + 4294967296).toNat true ++ [72]))) ∧ w.grownBy w' none := by
  have b72 : (⟨#[72]⟩ : ByteArray) = bs [72] := rfl
  have HH := hide (fun W => hex_at (n + 4294967296).toNat true W (by omega))
  obtain ⟨x, hx⟩ : ∃ x, hexT (n + 4294967296).toNat true = x := ⟨_, rfl⟩
  have hxl := hexT_len (n + 4294967296).toNat true
  rw [show ((n + 4294967296).toNat : Int) = n + 4294967296 by omega] at HH
  rw [hx] at HH hxl ⊢
  have hadd2 : ∀ W : World, (Op.stringOp .add (bs x) (bs [72])).run Tryz.prog W = .ok (.string (bs (x ++ [72]))) W := fun W => by
    rw [run_string_add_sum W _ _ (by rw [bs_size, bs_size]; simp; omega), bs_append]
  clear hx
  go_enter Tryz.func17, Tryz.ntmps17
  go_wp2_with (go_at_call 29; refine (HH.out _).mono ?_; rintro e w' ⟨rfl, hw⟩; replace hw := hw.symm; subst hw)
  go_ret
  exact ⟨rfl, alloc_g _ _⟩
theorem One_at (t : Tk) (w : World) (hg : goodT t = true) : Calls Tryz.prog 17 #[aggT t] w fun e w' => e = .returned (.string (bs (oneS t))) ∧ w.grownBy w' none := by
  obtain ⟨k, t, n, a⟩ := t
  unfold oneS aggT
  unfold goodT at hg
  dsimp only at hg ⊢
  by_cases h3 : k = 3
  · subst h3
    rw [if_neg (by decide), if_neg (by decide), if_pos rfl] at hg
    simp only [Bool.and_eq_true, decide_eq_true_eq] at hg
    rw [if_pos rfl]
    by_cases hn : n < 0
    · rw [if_pos hn]; exact One_3n n a t w hg.2.1 hn
    · rw [if_neg hn]
      obtain ⟨m, rfl⟩ := Int.eq_ofNat_of_zero_le (by omega : 0 ≤ n)
      exact One_3p m a t w (by omega)
  by_cases h4 : k = 4
  · subst h4
    rw [if_neg (by decide), if_neg (by decide), if_neg (by decide), if_pos rfl] at hg
    simp only [Bool.and_eq_true, decide_eq_true_eq] at hg
    rw [if_neg (by decide), if_pos rfl]
    obtain ⟨m, rfl⟩ := Int.eq_ofNat_of_zero_le hg.2.1
    exact One_4 m a t w (by omega)
  rw [if_neg h3, if_neg h4]
  by_cases h5 : k = 5
  · subst h5
    rw [if_neg (by decide), if_neg (by decide), if_neg (by decide), if_neg (by decide), if_pos rfl] at hg
    rw [if_pos rfl]
    refine One_5 n a t w ?_
    simp only [strB, Bool.and_eq_true, decide_eq_true_eq] at hg
    exact hg.2.1
  rw [if_neg h5]
  exact One_x k n a t w h3 h4 h5
end Go.Proofs.YthnkkcamfcmhmaaGreatDoor.Lx
