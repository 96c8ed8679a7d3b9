/-
  The document's own tokens (package spinetref09): hex, One.
-/
import Derived.Test.YthnkkcamfcmhmaaGreatDoorLr11
namespace Go.Proofs.YthnkkcamfcmhmaaGreatDoor.Lx
open Go.RowKit Go.Proofs.YthnkkcamfcmhmaaGreatDoor.Tx
set_option linter.unusedVariables false
set_option linter.unusedSimpArgs false
set_option maxRecDepth 100000

/- A number's hexadecimal digits. -/
def hd (r : Nat) : UInt8 := UInt8.ofNat (if r < 10 then 48 + r else 55 + r)
def hxF : Nat → Nat → List UInt8
  | 0, _ => []
  | k + 1, n => if n < 16 then [hd n] else hxF k (n / 16) ++ [hd (n % 16)]
theorem hxF_le : ∀ (k m n : Nat), n < 16 ^ (k + 1) → hxF (k + 1 + m) n = hxF (k + 1) n
  | 0, m, n, h => by
    have h' : n < 16 := by simpa using h
    rw [show 0 + 1 + m = m + 1 by omega, hxF, hxF, if_pos h', if_pos h']
  | k + 1, m, n, h => by
    rw [show k + 1 + 1 + m = (k + 1 + m) + 1 by omega, hxF, hxF]
    rw [hxF_le k m (n / 16) (by rw [Nat.pow_succ] at h; omega)]
theorem hxF_len (k : Nat) : ∀ n, (hxF k n).length ≤ k := by
  induction k with
  | zero => intro n; simp [hxF]
  | succ k ih =>
    intro n
    rw [hxF]
    split
    · simp
    · have := ih (n / 16)
      simp
      omega
def hxN (n : Nat) : List UInt8 := hxF 9 n
theorem hxN_lo {n : Nat} (h : n < 16) : hxN n = [hd n] := by rw [hxN, hxF, if_pos h]
theorem hxN_hi {n : Nat} (h : ¬ n < 16) (h1 : n < 4294967296) : hxN n = hxN (n / 16) ++ [hd (n % 16)] := by
  rw [hxN, hxF, if_neg h, hxN, show (9 : Nat) = 7 + 1 + 1 from rfl, hxF_le 7 1 (n / 16) (by show n / 16 < 4294967296; omega)]
theorem hxN_len (n : Nat) : (hxN n).length ≤ 9 := hxF_len 9 n
theorem hxN_pos (n : Nat) : hxN n ≠ [] := by
  rw [hxN, hxF]
  split <;> simp
/- The loop's: n is what is left of N, s what was written. -/
def HxI (N n : Nat) (s : List UInt8) : Prop := (s = [] ∧ n = N) ∨ (s ≠ [] ∧ (n = 0 → hxN N = s) ∧ (0 < n → hxN N = hxN n ++ s))
theorem HxI.len {N n : Nat} {s : List UInt8} (h : HxI N n s) : s.length ≤ 9 := by
  have := hxN_len N
  rcases h with ⟨rfl, _⟩ | ⟨_, h0, h1⟩
  · simp
  · by_cases hn : n = 0
    · rw [← h0 hn]; exact this
    · rw [h1 (by omega)] at this
      simp at this
      omega
theorem HxI.le {N n : Nat} {s : List UInt8} (h : HxI N n s) (hs : s = []) : n = N := by
  rcases h with ⟨_, h⟩ | ⟨h, _⟩
  · exact h
  · exact absurd hs h
theorem HxI.done {N : Nat} {s : List UInt8} (h : HxI N 0 s) (hs : s ≠ []) : hxN N = s := by
  rcases h with ⟨h, _⟩ | ⟨_, h, _⟩
  · exact absurd h hs
  · exact h rfl
theorem HxI.next {N n : Nat} {s : List UInt8} (h : HxI N n s) (hN : n < 4294967296) (hx : 0 < n ∨ s = []) : HxI N (n / 16) (hd (n % 16) :: s) := by
  have key : hxN N = hxN n ++ s := by
    rcases h with ⟨rfl, rfl⟩ | ⟨hs, h0, h1⟩
    · simp
    · rcases hx with h | h
      · exact h1 h
      · exact absurd h hs
  refine Or.inr ⟨by simp, fun h0 => ?_, fun h0 => ?_⟩
  · have : n < 16 := by omega
    rw [key, hxN_lo this, show n % 16 = n by omega]; rfl
  · rw [key, hxN_hi (by omega) hN]; simp
theorem hd_ext (r : Nat) (h : r < 16) : (⟨#[48, 49, 50, 51, 52, 53, 54, 55, 56, 57, 65, 66, 67, 68, 69, 70]⟩ : ByteArray).extract r (r + 1) = bs [hd r] := by
  have : ∀ r : Fin 16, (⟨#[48, 49, 50, 51, 52, 53, 54, 55, 56, 57, 65, 66, 67, 68, 69, 70]⟩ : ByteArray).extract r.1 (r.1 + 1) = bs [hd r.1] := by
    intro r
    rw [show (⟨#[48, 49, 50, 51, 52, 53, 54, 55, 56, 57, 65, 66, 67, 68, 69, 70]⟩ : ByteArray) = bs [48, 49, 50, 51, 52, 53, 54, 55, 56, 57, 65, 66, 67, 68, 69, 70] from rfl, bs_ext]
    congr 1
    revert r
    decide
  exact this ⟨r, h⟩
def hexT (n : Nat) (al : Bool) : List UInt8 := if al = true ∨ letN ((hxN n).headD 0) = true then 48 :: hxN n else hxN n
def emp : Value → Nat
  | .string b => if b.size = 0 then 1 else 0
  | _ => 0
theorem emp_nil : emp (.string (bs [])) = 1 := rfl
theorem emp_cons (c : UInt8) (r : List UInt8) : emp (.string (bs (c :: r))) = 0 := by rw [emp, bs_size, if_neg (by simp)]
set_option maxHeartbeats 4000000 in
theorem hex_at (n : Nat) (al : Bool) (w : World) (hn : n < 4294967296) : Calls Tryz.prog 29 #[.int .i64 n, .bool al] w fun e w' => e = .returned (.string (bs (hexT n al))) ∧ w' = w := by
  have HN := hide hn
  have b48 : (⟨#[48]⟩ : ByteArray) = bs [48] := rfl
  clear hn
  go_enter Tryz.func29, Tryz.ntmps29
  go_wp2
  go_loop [0, 5] (fun nv sv => ∃ (m : Nat) (s : List UInt8), nv = .int .i64 m ∧ sv = .string (bs s) ∧ m ≤ n ∧ Hid (HxI n m s)) (fun nv sv => 2 * (intOf nv).toNat + emp sv)
  case atStart => exact ⟨n, [], rfl, rfl, Nat.le_refl _, hide (Or.inl ⟨rfl, rfl⟩)⟩
  case round =>
    obtain ⟨m, s, rfl, rfl, hm, HI⟩ := hrel
    have hlen := HI.out.len
    by_cases hx : 0 < m ∨ s = []
    · have HX := hide (HI.out.next (by have := HN.out; omega) hx)
      have hq : (0 : Int) < m ∨ (bs s).toList = [] := by rw [bs_toList]; exact hx.imp (fun h => by omega) id
      obtain ⟨M, hM⟩ : ∃ M : Int, (m : Int) = M := ⟨_, rfl⟩
      obtain ⟨q, hq'⟩ : ∃ q, m / 16 = q := ⟨_, rfl⟩
      obtain ⟨r, hr⟩ : ∃ r, m % 16 = r := ⟨_, rfl⟩
      have hmN : M < 4294967296 := by have := HN.out; omega
      have hM0 : 0 ≤ M := by omega
      have r1 : r < 16 := by omega
      have r1' : (r : Int) < 16 := by omega
      have t1 : M.tdiv 16 = (q : Int) := by rw [Int.tdiv_eq_ediv_of_nonneg (by omega)]; omega
      have t2 : M.tmod 16 = (r : Int) := by rw [Int.tmod_eq_emod_of_nonneg (by omega)]; omega
      have he := hd_ext r r1
      have hr1 : ((r : Int) + 1).toNat = r + 1 := by omega
      have hadd : ∀ W : World, (Op.stringOp .add (bs [hd r]) (bs s)).run Tryz.prog W = .ok (.string (bs (hd r :: s))) W := fun W => by
        rw [run_string_add_sum W _ _ (by rw [bs_size, bs_size]; simp; omega), bs_append]
        rfl
      have hwq : IntKind.i64.wrap (q : Int) = (q : Int) := IntWalk.i64_in _ ⟨by omega, by omega⟩
      rw [hq', hr] at HX
      have HDn := hide (show 2 * q < 2 * m + emp (.string (bs s)) by
        rcases hx with h | h
        · omega
        · rw [h, emp_nil]; omega)
      rw [hM] at hq ⊢
      have HM := hide hM
      have HQ := hide hq'
      clear hx hM hq' hr
      by_cases hp : (0 : Int) < M
      · clear hq
        go_wp2
        exact ⟨⟨q, _, rfl, rfl, by have := HQ.out; omega, HX⟩, by rw [emp_cons]; have := HDn.out; have := HM.out; simp [intOf]; omega⟩
      · have hq2 := hq.resolve_left hp
        clear hq
        go_wp2
        exact ⟨⟨q, _, rfl, rfl, by have := HQ.out; omega, HX⟩, by rw [emp_cons]; have := HDn.out; have := HM.out; simp [intOf]; omega⟩
    · obtain rfl : m = 0 := by omega
      have hs : s ≠ [] := fun h => hx (Or.inr h)
      have HE := hide (HI.out.done hs)
      have hq2 : (bs s).toList.isEmpty = false := by rw [bs_toList]; simpa using hs
      obtain ⟨c, hc⟩ : ∃ c, s.headD 0 = c := ⟨_, rfl⟩
      have h0 : 0 < s.length := by cases s with
        | nil => exact absurd rfl hs
        | cons c r => simp
      have hb0 : ∀ h, (bs s)[0]'h = c := fun h => by
        rw [← hc]
        cases s with
        | nil => exact absurd rfl hs
        | cons c r => rfl
      have hsz := bs_size s
      have i0 : (0 : Int) < s.length := by omega
      have hadd : ∀ W : World, (Op.stringOp .add (bs [48]) (bs s)).run Tryz.prog W = .ok (.string (bs (48 :: s))) W := fun W => by
        rw [run_string_add_sum W _ _ (by rw [bs_size, bs_size]; simp; omega), bs_append]
        rfl
      have HT := hide (show hexT n al = if al = true ∨ letN c = true then 48 :: s else s by rw [hexT, HE.out, hc])
      clear hx hc hs
      cases al
      · cases hl : letN c
        · have HL := hide (show ltI (c.toNat : Int) = false from hl)
          rw [hl] at HT
          clear hl
          go_wp2_with (go_at_call 45; refine (letter_any _ _).mono ?_; rw [HL.out]; rintro e w' ⟨rfl, hw⟩; replace hw := hw.symm; subst hw)
          go_ret
          refine ⟨?_, rfl⟩
          rw [HT.out, if_neg (by simp)]
          rfl
        · have HL := hide (show ltI (c.toNat : Int) = true from hl)
          rw [hl] at HT
          clear hl
          go_wp2_with (go_at_call 45; refine (letter_any _ _).mono ?_; rw [HL.out]; rintro e w' ⟨rfl, hw⟩; replace hw := hw.symm; subst hw)
          go_ret
          refine ⟨?_, rfl⟩
          rw [HT.out, if_pos (by simp)]
          rfl
      · go_wp2
        go_ret
        refine ⟨?_, rfl⟩
        rw [HT.out, if_pos (by simp)]
        rfl
end Go.Proofs.YthnkkcamfcmhmaaGreatDoor.Lx
