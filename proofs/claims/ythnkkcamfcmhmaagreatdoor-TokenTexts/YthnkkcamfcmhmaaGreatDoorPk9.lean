/-
  Package token: numbers as digits; a token's spelling.
-/
import Derived.Test.YthnkkcamfcmhmaaGreatDoorPn3
import Derived.Test.YthnkkcamfcmhmaaGreatDoorPn4
import Derived.Test.YthnkkcamfcmhmaaGreatDoorPk1
namespace Go.Proofs.YthnkkcamfcmhmaaGreatDoor.Lx
open Go.RowKit Go.Proofs.YthnkkcamfcmhmaaGreatDoor.Tx
set_option linter.unusedVariables false
set_option linter.unusedSimpArgs false
set_option maxRecDepth 100000

/- The number in base 16, small digits; capital ones. -/
def loS (n : Int) : List UInt8 := if n < 0 then 45 :: hlF 16 (-n).toNat else hlF 16 n.toNat
def hexS (n : Int) : List UInt8 := if n < 0 then 45 :: hxF 16 (-n).toNat else hxF 16 n.toNat
theorem loS_up (n : Int) : Lib.toUpperA (loS n) = hexS n := by
  unfold loS hexS Lib.toUpperA
  split
  · rw [List.map_cons, hlF_up]; rfl
  · rw [hlF_up]
theorem loS_ascii (n : Int) : ∀ c ∈ loS n, c.toNat < 128 := by
  unfold loS
  split
  · intro c hc
    rcases List.mem_cons.1 hc with rfl | hc
    · decide
    · exact hlF_ascii _ _ c hc
  · exact hlF_ascii _ _
theorem loS_len (n : Int) : (loS n).length ≤ 17 := by
  unfold loS
  split
  · have := hlF_len 16 (-n).toNat; simp; omega
  · have := hlF_len 16 n.toNat; omega
theorem hxF_pos (k n : Nat) : hxF (k + 1) n ≠ [] := by rw [← hlF_up]; simpa using hlF_pos k n
theorem hexS_pos (n : Int) : hexS n ≠ [] := by
  unfold hexS
  split
  · simp
  · exact hxF_pos 15 _
theorem hexS_len (n : Int) : (hexS n).length ≤ 17 := by
  rw [← loS_up]
  have := loS_len n
  simpa [Lib.toUpperA] using this
set_option maxHeartbeats 2000000 in
theorem fii_16 (n : Int) (h0 : -9223372036854775808 ≤ n) (h1 : n ≤ 9223372036854775807) (w : World) (A : Gt w) :
    Calls Tryz.prog 74 #[.int .i64 n, .int .i64 16] w fun e w' => e = .returned (.string (bs (loS n))) ∧ w.grownBy w' none := by
  by_cases hn : n < 0
  · obtain ⟨u0, hu0⟩ : ∃ u0 : Nat, -n = (u0 : Int) := ⟨(-n).toNat, by omega⟩
    have hU : IntKind.u64.wrap (-(IntKind.u64.wrap n)) = (u0 : Int) := by rw [IntKind.wrap_u64, IntKind.wrap_u64]; omega
    have FB := hide (fb_neg u0 (IntKind.u64.wrap n) hU (by omega) w A.deb A.size)
    have HE := hide (show loS n = 45 :: hlF 16 u0 by rw [loS, if_pos hn, show (-n).toNat = u0 by omega])
    obtain ⟨U, hUe⟩ : ∃ U, IntKind.u64.wrap n = U := ⟨_, rfl⟩
    rw [hUe] at FB
    clear A hU hu0 h0
    go_enter Tryz.func74, Tryz.ntmps74
    go_wp2_with (go_at_call 85; refine FB.out.mono ?_; rintro e w1 ⟨d, rfl, hg⟩; have HG := hide hg; clear hg)
    go_ret
    exact ⟨by rw [HE.out]; rfl, HG.out⟩
  · obtain ⟨u0, rfl⟩ := Int.eq_ofNat_of_zero_le (show 0 ≤ n by omega)
    have hw64 : IntKind.u64.wrap (u0 : Int) = (u0 : Int) := by rw [IntKind.wrap_u64]; omega
    have FB := hide (fb_pos u0 (by omega) w A.deb A.size)
    have HE := hide (show loS (u0 : Int) = hlF 16 u0 by rw [loS, if_neg hn]; rfl)
    obtain ⟨N, hN⟩ : ∃ N : Int, (u0 : Int) = N := ⟨_, rfl⟩
    rw [hN] at FB hw64 hn h1 h0 ⊢
    have HNe := hide hN
    have hn0 : 0 ≤ N := by omega
    have hdn : decide (N < 0) = false := decide_eq_false (by omega)
    clear A hN hn h0
    go_enter Tryz.func74, Tryz.ntmps74
    go_wp2_with (go_at_call 85; refine FB.out.mono ?_; rintro e w1 ⟨d, rfl, hg⟩; have HG := hide hg; clear hg)
    go_ret
    exact ⟨by rw [← HNe.out, HE.out]; rfl, HG.out⟩
theorem fi_16 (n : Int) (h0 : -9223372036854775808 ≤ n) (h1 : n ≤ 9223372036854775807) (w : World) (A : Gt w) :
    Calls Tryz.prog 61 #[.int .i64 n, .int .i64 16] w fun e w' => e = .returned (.string (bs (loS n))) ∧ w.grownBy w' none := by
  have FB := hide (fii_16 n h0 h1 w A)
  clear A h0 h1
  go_enter Tryz.func61, Tryz.ntmps61
  go_wp2_with (go_at_call 74; refine FB.out.mono ?_; rintro e w1 ⟨rfl, hg⟩; have HG := hide hg; clear hg)
  go_ret
  exact ⟨rfl, HG.out⟩
theorem up_at (n : Int) (w : World) : Calls Tryz.prog 60 #[.string (bs (loS n))] w fun e w' => e = .returned (.string (bs (hexS n))) ∧ w.grownBy w' none := by
  refine (Tryz.strings_ToUpper_ascii (bs (loS n)) w (by rw [bs_size]; have := loS_len n; omega) (fun j b hb => loS_ascii n b (List.mem_of_getElem? hb))).mono ?_
  rintro e w' ⟨rfl, hb⟩
  refine ⟨?_, below_g hb⟩
  rw [← loS_up]
  rfl
theorem hexd_at (n : Int) (h0 : -9223372036854775808 ≤ n) (h1 : n ≤ 9223372036854775807) (w : World) (A : Gt w) :
    Calls Tryz.prog 53 #[.int .i64 n] w fun e w' => e = .returned (.string (bs (hexS n))) ∧ w.grownBy w' none := by
  have H1 := hide (fi_16 n h0 h1 w A)
  clear A h0 h1
  go_enter Tryz.func53, Tryz.ntmps53
  go_wp2_with (first
    | (go_at_call 61; refine H1.out.mono ?_; rintro e w1 ⟨rfl, hg⟩; have G1 := hide hg; clear hg)
    | (go_at_call 60; refine (up_at n _).mono ?_; rintro e w2 ⟨rfl, hg⟩; have G2 := hide (grown_trans G1.out hg); clear hg))
  go_ret
  exact ⟨rfl, G2.out⟩
/- Decimal digits of any number. -/
theorem dd_len : ∀ (k n : Nat), n < 10 ^ (k + 1) → (Lib.decDigits n).length ≤ k + 1
  | 0, n, h => by
    have h1 : n < 10 := by simpa using h
    rw [Lib.decDigits, dif_pos h1]
    simp
  | k + 1, n, h => by
    rw [Lib.decDigits]
    split
    · simp
    · have := dd_len k (n / 10) (by rw [Nat.pow_succ] at h; omega)
      simp
      omega
theorem itoa_len {n : Int} (h0 : 0 ≤ n) (h1 : n ≤ 9223372036854775807) : (Lib.itoa n).length ≤ 20 := by
  unfold Lib.itoa
  rw [if_neg (by omega)]
  have := dd_len 19 n.toNat (by show n.toNat < 100000000000000000000; omega)
  omega
theorem dig_dec : ∀ (k n : Nat), n < 10 ^ (k + 1) → k < 12 → Lib.decDigits n = decN n := by
  intro k
  induction k with
  | zero =>
    intro n h _
    have h1 : n < 10 := by simpa using h
    rw [Lib.decDigits, dif_pos h1, decN_lo h1]; rfl
  | succ k ih =>
    intro n h hk
    by_cases h1 : n < 10
    · rw [Lib.decDigits, dif_pos h1, decN_lo h1]; rfl
    · have h12 : n < 1000000000000 := Nat.lt_of_lt_of_le h (Nat.le_trans (Nat.pow_le_pow_right (by decide) (show k + 1 + 1 ≤ 12 by omega)) (by decide))
      rw [Lib.decDigits, dif_neg h1, decN_hi h1 h12, ih (n / 10) (by rw [Nat.pow_succ] at h; omega) (by omega)]; rfl
def intS (n : Int) : List UInt8 := if n < 0 then (48 :: hexS (n % 4294967296)) ++ [72] else Lib.itoa n
def chrS (n : Int) : List UInt8 := (if 65 ≤ ((hexS n).headD 0).toNat then 48 :: hexS n else hexS n) ++ [88]
theorem grow_g (w : World) (k : Nat) (os : Array Obj) : w.grownBy (Go.Sort.grow (w.drewN k) os) none :=
  ⟨rfl, rfl, rfl, by simp [Go.Sort.grow, World.drewN], fun j hj _ => by simp [Go.Sort.grow, World.drewN, Array.getElem?_append, hj]⟩
theorem add_bs (a b : List UInt8) (h : a.length + b.length ≤ 1000000) (W : World) : (Op.stringOp .add (bs a) (bs b)).run Tryz.prog W = .ok (.string (bs (a ++ b))) W := by
  rw [run_string_add_sum W _ _ (by rw [bs_size, bs_size]; omega), bs_append]
set_option maxHeartbeats 2000000 in
theorem integer_at (n : Int) (h0 : -9223372036854775808 ≤ n) (h1 : n ≤ 9223372036854775807) (w : World) (A : Gt w) :
    Calls Tryz.prog 40 #[.int .i64 n] w fun e w' => e = .returned (.string (bs (intS n))) ∧ w.grownBy w' none := by
  by_cases hn : n < 0
  · obtain ⟨m, hm⟩ : ∃ m, n % 4294967296 = m := ⟨_, rfl⟩
    have m0 : 0 ≤ m ∧ m < 4294967296 := by omega
    obtain ⟨m1, m2⟩ := m0
    have hw32 : IntKind.u32.wrap n = m := by rw [IntKind.wrap_u32]; omega
    have HD := hide (hexd_at m (by omega) (by omega) w A)
    have HE := hide (show intS n = (48 :: hexS m) ++ [72] by rw [intS, if_pos hn, hm])
    have hl := hexS_len m
    obtain ⟨x, hx⟩ : ∃ x, hexS m = x := ⟨_, rfl⟩
    rw [hx] at HD HE hl
    obtain ⟨y, hy⟩ : ∃ y, [48] ++ x = y := ⟨_, rfl⟩
    have ha1 := add_bs [48] x (by simp; omega)
    have ha2 := add_bs y [72] (by rw [← hy]; simp; omega)
    rw [hy] at ha1
    obtain ⟨z, hz⟩ : ∃ z, y ++ [72] = z := ⟨_, rfl⟩
    rw [hz] at ha2
    have HZ := hide (show intS n = z by rw [HE.out, ← hz, ← hy]; rfl)
    have b48 : (⟨#[48]⟩ : ByteArray) = bs [48] := rfl
    have b72 : (⟨#[72]⟩ : ByteArray) = bs [72] := rfl
    clear A hm h0 h1 hx hy hz
    go_enter Tryz.func40, Tryz.ntmps40
    go_wp2_with (go_at_call 53; refine HD.out.mono ?_; rintro e w1 ⟨rfl, hg⟩; have HG := hide hg; clear hg)
    go_ret
    exact ⟨by rw [HZ.out]; rfl, HG.out⟩
  · have HI := hide (Tryz.strconv_Itoa n h0 h1 w A.pow)
    have HE := hide (show intS n = Lib.itoa n by rw [intS, if_neg hn])
    clear A h0 h1
    go_enter Tryz.func40, Tryz.ntmps40
    go_wp2_with (go_at_call 54; refine HI.out.mono ?_; rintro e w1 ⟨rfl, kk, os, rfl⟩)
    go_ret
    exact ⟨by rw [HE.out]; rfl, grow_g _ _ _⟩
set_option maxHeartbeats 2000000 in
theorem char_at (n : Int) (h0 : -9223372036854775808 ≤ n) (h1 : n ≤ 9223372036854775807) (w : World) (A : Gt w) :
    Calls Tryz.prog 41 #[.int .i64 n] w fun e w' => e = .returned (.string (bs (chrS n))) ∧ w.grownBy w' none := by
  have HD := hide (hexd_at n h0 h1 w A)
  have hl := hexS_len n
  have hne := hexS_pos n
  obtain ⟨x, hx⟩ : ∃ x, hexS n = x := ⟨_, rfl⟩
  have HA := hide (show 65 ≤ (x.headD 0).toNat → chrS n = (48 :: x) ++ [88] from fun h => by rw [chrS, hx, if_pos h])
  have HB := hide (show ¬ 65 ≤ (x.headD 0).toNat → chrS n = x ++ [88] from fun h => by rw [chrS, hx, if_neg h])
  rw [hx] at HD hl hne
  have b48 : (⟨#[48]⟩ : ByteArray) = bs [48] := rfl
  have b88 : (⟨#[88]⟩ : ByteArray) = bs [88] := rfl
  have hsz := bs_size x
  clear hx A h0 h1
  cases x with
  | nil => exact absurd rfl hne
  | cons c r =>
    obtain ⟨X, hX⟩ : ∃ X, c :: r = X := ⟨_, rfl⟩
    have hb : ∀ h, (bs X)[0]'h = c := fun h => by subst hX; rfl
    have hXl : 0 < X.length := by rw [← hX]; simp
    have hXi : (0 : Int) < X.length := by omega
    simp only [List.headD_cons] at HA HB
    rw [hX] at HD HA HB hl hsz
    clear hX hne
    by_cases h65 : 65 ≤ c.toNat
    · have HE := hide (HA.out h65)
      have i65 : (65 : Int) ≤ c.toNat := by omega
      obtain ⟨y, hy⟩ : ∃ y, [48] ++ X = y := ⟨_, rfl⟩
      have ha1 := add_bs [48] X (by simp; omega)
      have ha2 := add_bs y [88] (by rw [← hy]; simp; omega)
      rw [hy] at ha1
      obtain ⟨z, hz⟩ : ∃ z, y ++ [88] = z := ⟨_, rfl⟩
      rw [hz] at ha2
      have HZ := hide (show chrS n = z by rw [HE.out, ← hz, ← hy]; rfl)
      clear hy hz
      go_enter Tryz.func41, Tryz.ntmps41
      go_wp2_with (go_at_call 53; refine HD.out.mono ?_; rintro e w1 ⟨rfl, hg⟩; have HG := hide hg; clear hg)
      go_ret
      exact ⟨by rw [HZ.out]; rfl, HG.out⟩
    · have HE := hide (HB.out h65)
      have i65 : ¬ (65 : Int) ≤ c.toNat := by omega
      have ha2 := add_bs X [88] (by simp; omega)
      obtain ⟨z, hz⟩ : ∃ z, X ++ [88] = z := ⟨_, rfl⟩
      rw [hz] at ha2
      have HZ := hide (show chrS n = z by rw [HE.out, ← hz])
      clear hz
      go_enter Tryz.func41, Tryz.ntmps41
      go_wp2_with (go_at_call 53; refine HD.out.mono ?_; rintro e w1 ⟨rfl, hg⟩; have HG := hide hg; clear hg)
      go_ret
      exact ⟨by rw [HZ.out]; rfl, HG.out⟩
/- A token's spelling. -/
def spS (t : Tk) : List UInt8 := if t.k = 3 then intS t.n else if t.k = 4 then chrS t.n else if t.k = 5 then 34 :: (t.t ++ [34]) else t.t
theorem spS_len {t : Tk} (h0 : -9223372036854775808 ≤ t.n) (h1 : t.n ≤ 9223372036854775807) (hl : t.t.length ≤ 1000) : (spS t).length ≤ 2000 := by
  unfold spS
  split
  · unfold intS
    split
    · have := hexS_len (t.n % 4294967296)
      simp
      omega
    · have := itoa_len (n := t.n) (by omega) h1
      omega
  split
  · unfold chrS
    have := hexS_len t.n
    split <;> simp <;> omega
  split
  · simp; omega
  · omega
end Go.Proofs.YthnkkcamfcmhmaaGreatDoor.Lx
