/-
  Layer 5's machine as a function: what holds of a state holds of the next.
-/
import Derived.Test.YtfdofleohichiaaGreatDoorCdef
namespace Go.Proofs.YtfdofleohichiaaGreatDoor.Cpu
open Go.RowKit Go.Proofs.YtfdofleohichiaaGreatDoor.Bits Go.Proofs.YtfdofleohichiaaGreatDoor.Gw Go.Proofs.YtfdofleohichiaaGreatDoor.Risc Go.Proofs.YtfdofleohichiaaGreatDoor.Alu Go.Proofs.YtfdofleohichiaaGreatDoor.Mem

def W32 (x : Int) : Prop := 0 ≤ x ∧ x < 4294967296
theorem W32.mod (x : Int) : W32 (x % 4294967296) := ⟨by omega, by omega⟩
theorem W32.zero : W32 0 := ⟨by decide, by decide⟩
theorem c_and (b n : Int) (hb : W32 b) (hn : W32 n) : W32 (Go.bits .and .u32 b n) := by
  rw [u32_and b n hb.1 hb.2 hn.1 hn.2]
  have hx : b.toNat &&& n.toNat < 2 ^ 32 := Nat.and_lt_two_pow _ (by have := hn.1; have := hn.2; omega)
  exact ⟨by omega, by omega⟩
theorem c_ann (b n : Int) (hb : W32 b) (hn : W32 n) : W32 (Go.bits .andNot .u32 b n) := by
  rw [u32_andNot b n hb.1 hb.2 hn.1 hn.2]
  have hx : b.toNat &&& (4294967295 - n.toNat) < 2 ^ 32 := Nat.and_lt_two_pow _ (by omega)
  exact ⟨by omega, by omega⟩
theorem c_or (b n : Int) (hb : W32 b) (hn : W32 n) : W32 (Go.bits .or .u32 b n) := by
  rw [u32_or b n hb.1 hb.2 hn.1 hn.2]
  have hx : b.toNat ||| n.toNat < 2 ^ 32 := Nat.or_lt_two_pow (by have := hb.1; have := hb.2; omega) (by have := hn.1; have := hn.2; omega)
  exact ⟨by omega, by omega⟩
theorem c_xor (b n : Int) (hb : W32 b) (hn : W32 n) : W32 (Go.bits .xor .u32 b n) := by
  rw [u32_xor b n hb.1 hb.2 hn.1 hn.2]
  have hx : b.toNat ^^^ n.toNat < 2 ^ 32 := Nat.xor_lt_two_pow (by have := hb.1; have := hb.2; omega) (by have := hn.1; have := hn.2; omega)
  exact ⟨by omega, by omega⟩
theorem rI_bd (op : Int) (u : Bool) (b n h : Int) (C : Bool) (hb : W32 b) (hn : W32 n) (hh : W32 h) : W32 (rI op u b n h C) := by
  unfold rI
  split
  · split
    · exact hh
    · exact hn
  split
  · exact W32.mod _
  split
  · exact W32.mod _
  split
  · exact W32.mod _
  split
  · unfold divQ; split
    · exact W32.zero
    · exact W32.mod _
  unfold bitI
  split
  · exact lsl_range _ _
  split
  · exact W32.mod _
  split
  · exact ror_range _ _ hb.1 hb.2
  split
  · exact c_and _ _ hb hn
  split
  · exact c_ann _ _ hb hn
  split
  · exact c_or _ _ hb hn
  · exact c_xor _ _ hb hn
theorem hI_bd (op : Int) (u : Bool) (b n h : Int) (hb : W32 b) (hh : W32 h) : W32 (hI op u b n h) := by
  unfold hI
  split
  · exact W32.mod _
  split
  · unfold divR; split
    · exact hb
    · have h1 := wrap32_lt n
      have h2 : 0 ≤ wrap32 b % wrap32 n := Int.emod_nonneg _ (by omega)
      have h3 : wrap32 b % wrap32 n < wrap32 n := Int.emod_lt_of_pos _ (by omega)
      exact ⟨h2, by omega⟩
  · exact hh

/- What is known of an instruction that was decoded. -/
structure Gd (f : Int) (u v : Bool) (a b c op im : Int) : Prop where
  f0 : f = 0 ∨ f = 1 ∨ f = 2 ∨ f = 3
  a0 : 0 ≤ a ∧ a ≤ 15
  b0 : 0 ≤ b ∧ b ≤ 15
  c0 : 0 ≤ c ∧ c ≤ 15
  op0 : 0 ≤ op ∧ op ≤ 11
  im0 : -8388608 ≤ im ∧ im ≤ 8388607
  im1 : f = 1 → 0 ≤ im ∧ im ≤ 65535
  ok : f = 0 ∨ f = 1 → Alu.okB op u = true
  rv : f = 0 → v = true → op = 0 ∧ u = true

theorem gd_of {f : Int} {u v : Bool} {a b c op im : Int} (h : goodR f u v a b c op im = true) : Gd f u v a b c op im := by
  have hf := good_form h
  unfold goodR at h
  simp only [Bool.and_eq_true, in_iff] at h
  obtain ⟨⟨⟨⟨ha, hb⟩, hc⟩, ho⟩, hr⟩ := h
  rcases hf with rfl | rfl | rfl | rfl
  · simp only [if_true, Bool.and_eq_true, decide_eq_true_eq] at hr
    obtain ⟨⟨h1, h2⟩, rfl⟩ := hr
    refine ⟨by omega, ha, hb, hc, ho, by omega, by omega, fun _ => ?_, fun _ hv => ?_⟩
    · simp [Alu.okB, ho.1, ho.2, mayB]; simpa [uokB] using h1
    · simpa [hv] using h2
  · simp only [show ¬ (1 : Int) = 0 by decide, if_false, if_true, Bool.and_eq_true, decide_eq_true_eq, in_iff] at hr
    obtain ⟨⟨h1, _⟩, h3⟩ := hr
    refine ⟨by omega, ha, hb, hc, ho, by omega, fun _ => h3, fun _ => ?_, fun h => by omega⟩
    simp [Alu.okB, ho.1, ho.2, mayB]; simpa [uokB] using h1
  · simp only [show ¬ (2 : Int) = 0 by decide, show ¬ (2 : Int) = 1 by decide, if_false, if_true, Bool.and_eq_true, decide_eq_true_eq, fits20] at hr
    exact ⟨by omega, ha, hb, hc, ho, by omega, by omega, fun h => by omega, fun h => by omega⟩
  · simp only [show ¬ (3 : Int) = 0 by decide, show ¬ (3 : Int) = 1 by decide, show ¬ (3 : Int) = 2 by decide, if_false, if_true, Bool.and_eq_true, decide_eq_true_eq] at hr
    have hi : -8388608 ≤ im ∧ im ≤ 8388607 := by
      obtain ⟨_, h2⟩ := hr
      split at h2
      · simp only [Bool.and_eq_true, decide_eq_true_eq, fits24] at h2; omega
      · simp at h2; omega
    exact ⟨by omega, ha, hb, hc, ho, hi, by omega, fun h => by omega, fun h => by omega⟩
theorem gd_dec {x : Int} (h : decB x = true) : Gd (uF x) (uU x) (uV x) (uA x) (uB x) (uC x) (uOp x) (uIm x) :=
  gd_of (by rw [← good_eq]; exact (dec_again h).2)

theorem len_set (l : List Int) (k : Nat) (x : Int) : (l.set k x).length = l.length := List.length_set
theorem in_size (inp : ByteArray) (k : Nat) : 0 ≤ inAt inp k ∧ inAt inp k < 256 := by
  unfold inAt
  have := (inp.data.toList.getD k 0).toNat_lt
  omega
theorem flW_bd (n z c v : Bool) : W32 (flW n z c v) := by
  unfold flW W32; cases n <;> cases z <;> cases c <;> cases v <;> decide
theorem ldI_bd {xs : List Int} (h : inR xs) (p : Int) : W32 (ldI xs p) := by
  unfold ldI; split
  · exact rng_at h _
  · exact W32.zero
theorem byI_bd {xs : List Int} (_h : inR xs) (p : Int) : W32 (byI xs p) := by
  unfold byI; split
  · have := Int.emod_nonneg (at0 xs (p / 4).toNat / sc p) (show (256 : Int) ≠ 0 by decide)
    have := Int.emod_lt_of_pos (at0 xs (p / 4).toNat / sc p) (show (0 : Int) < 256 by decide)
    exact ⟨by omega, by omega⟩
  · exact W32.zero
theorem stL_r {xs : List Int} (h : inR xs) (p : Int) {y : Int} (hy : W32 y) : inR (stL xs p y) := by
  unfold stL; split
  · exact inR_set h _ hy.1 hy.2
  · exact h
theorem pbL_r {xs : List Int} (h : inR xs) (p y : Int) : inR (pbL xs p y) := by
  unfold pbL; split
  · exact inR_set h _ (put8_range xs h _ _ _).1 (put8_range xs h _ _ _).2
  · exact h
theorem c_len_st (xs : List Int) (p v : Int) : (stL xs p v).length = xs.length := by unfold stL; split <;> simp
theorem c_len_pb (xs : List Int) (p v : Int) : (pbL xs p v).length = xs.length := by unfold pbL; split <;> simp
section
variable {inp : ByteArray} {s : Ms}
theorem Ms.ok.setBy (h : s.ok inp) (k : Nat) {r : Int} (hr : W32 r) : (s.setBy k r).ok inp :=
  ⟨by simp [Ms.setBy, h.r16], inR_set h.rr _ hr.1 hr.2, h.h0, h.pc0, h.pc1, h.xs1, h.xr, h.rd1, h.in1, h.out1, h.outr, h.en0, h.tr0⟩
theorem Ms.ok.en (h : s.ok inp) {e : Int} (he : 1 ≤ e ∧ e ≤ 6) : ({ s with en := e }).ok inp :=
  ⟨h.r16, h.rr, h.h0, h.pc0, h.pc1, h.xs1, h.xr, h.rd1, h.in1, h.out1, h.outr, he, h.tr0⟩
theorem Ms.ok.reg (h : s.ok inp) (k : Nat) : W32 (at0 s.R k) := rng_at h.rr k
theorem Ms.ok.opd (h : s.ok inp) {f : Int} {v : Bool} {kc : Nat} {im : Int} (hf : f = 0 ∨ f = 1) (hi : f = 1 → 0 ≤ im ∧ im ≤ 65535) : W32 (s.opd f v kc im) := by
  unfold Ms.opd
  rcases hf with rfl | rfl
  · exact h.reg kc
  · have := hi rfl
    simp only [show ¬ (1 : Int) = 0 by decide, if_false]
    split
    · exact ⟨by omega, by omega⟩
    · exact ⟨by omega, by omega⟩
theorem Ms.ok.did (h : s.ok inp) (op : Int) (u : Bool) (ka kb : Nat) {n : Int} (hn : W32 n) : (s.did op u ka kb n).ok inp :=
  ⟨by simp [Ms.did, h.r16], inR_set h.rr _ (rI_bd op u _ n s.h s.c (h.reg kb) hn h.h0).1 (rI_bd op u _ n s.h s.c (h.reg kb) hn h.h0).2, hI_bd op u _ n s.h (h.reg kb) h.h0, h.pc0, h.pc1, h.xs1, h.xr, h.rd1, h.in1, h.out1, h.outr, h.en0, h.tr0⟩
theorem Ms.ok.reckon (h : s.ok inp) {f : Int} {u v : Bool} {ka kb kc : Nat} {op im : Int} (hf : f = 0 ∨ f = 1) (hi : f = 1 → 0 ≤ im ∧ im ≤ 65535) : (s.reckon f u v ka kb kc op im).ok inp := by
  unfold Ms.reckon
  split
  · rename_i e
    have := hi e.2.2
    exact h.setBy _ ⟨by omega, by omega⟩
  split
  · exact h.setBy _ (flW_bd _ _ _ _)
  · exact h.did _ _ _ _ (h.opd hf hi)
theorem ldV_bd (h : s.ok inp) (p : Int) (v : Bool) : W32 (ldV inp s p v) := by
  unfold ldV
  split
  · split
    · have := in_size inp s.rd; exact ⟨by omega, by omega⟩
    · exact W32.zero
  split
  · split <;> exact ⟨by decide, by decide⟩
  split
  · exact byI_bd h.xr p
  · exact ldI_bd h.xr p
theorem Ms.ok.load (h : s.ok inp) (ka : Nat) (p : Int) (v : Bool) : (s.load inp ka p v).ok inp := by
  unfold Ms.load
  split
  · have h' : ({ s with rd := ldR inp s p } : Ms).ok inp := ⟨h.r16, h.rr, h.h0, h.pc0, h.pc1, h.xs1, h.xr, by show ldR inp s p ≤ inp.size; unfold ldR; have := h.rd1; split <;> omega, h.in1, h.out1, h.outr, h.en0, h.tr0⟩
    exact h'.setBy _ (ldV_bd h p v)
  · exact h.en (by decide)
theorem Ms.ok.put (h : s.ok inp) {y : Int} (hy : 0 ≤ y ∧ y < 256) : (s.put y).ok inp := by
  unfold Ms.put
  split
  · exact h.en (by decide)
  · refine ⟨h.r16, h.rr, h.h0, h.pc0, h.pc1, h.xs1, h.xr, h.rd1, h.in1, by simp; omega, ?_, h.en0, h.tr0⟩
    intro x hx
    rcases List.mem_append.1 hx with hx | hx
    · exact h.outr x hx
    · simp at hx; subst hx; exact hy
theorem Ms.ok.mem (h : s.ok inp) {ys : List Int} (hl : ys.length ≤ 65536) (hr : inR ys) : ({ s with xs := ys }).ok inp :=
  ⟨h.r16, h.rr, h.h0, h.pc0, h.pc1, hl, hr, h.rd1, h.in1, h.out1, h.outr, h.en0, h.tr0⟩
theorem Ms.ok.store (h : s.ok inp) (p : Int) {y : Int} (hy : W32 y) (v : Bool) : (s.store p y v).ok inp := by
  unfold Ms.store
  split
  · exact h.put ⟨by omega, by omega⟩
  split
  · exact ⟨h.r16, h.rr, h.h0, h.pc0, h.pc1, h.xs1, h.xr, h.rd1, h.in1, h.out1, h.outr, ⟨by show (1 : Int) ≤ 2; decide, by show (2 : Int) ≤ 6; decide⟩, wrap32_lt y⟩
  split
  · exact h.en (by decide)
  split
  · split
    · exact h.mem (by rw [c_len_pb]; exact h.xs1) (pbL_r h.xr p y)
    · exact h.en (by decide)
  · split
    · exact h.mem (by rw [c_len_st]; exact h.xs1) (stL_r h.xr p hy)
    · exact h.en (by decide)
theorem Ms.ok.access (h : s.ok inp) (u v : Bool) (ka kb : Nat) (im : Int) : (s.access inp u v ka kb im).ok inp := by
  unfold Ms.access
  split
  · exact h.store _ (h.reg ka) v
  · exact h.load ka _ v
theorem target_bd (h : s.ok inp) (u : Bool) (kc : Nat) (im : Int) : 0 ≤ s.target u kc im ∧ s.target u kc im < 1073741824 := by
  unfold Ms.target
  have := h.reg kc
  unfold W32 at this
  split <;> omega
theorem Ms.ok.jump (h : s.ok inp) (u v : Bool) (ka kc : Nat) (im : Int) : (s.jump u v ka kc im).ok inp := by
  unfold Ms.jump
  have ht := target_bd h u kc im
  split
  · cases v
    · exact ⟨h.r16, h.rr, h.h0, ht.1, ht.2, h.xs1, h.xr, h.rd1, h.in1, h.out1, h.outr, h.en0, h.tr0⟩
    · exact ⟨by simp [h.r16], inR_set h.rr _ (W32.mod _).1 (W32.mod _).2, h.h0, ht.1, ht.2, h.xs1, h.xr, h.rd1, h.in1, h.out1, h.outr, h.en0, h.tr0⟩
  · exact h
theorem Ms.ok.exec (h : s.ok inp) {f : Int} {u v : Bool} {ka kb kc : Nat} {op im : Int} (hi : f = 1 → 0 ≤ im ∧ im ≤ 65535) : (s.exec inp f u v ka kb kc op im).ok inp := by
  unfold Ms.exec
  split
  · exact h.reckon (by assumption) hi
  split
  · exact h.access u v ka kb im
  · exact h.jump u v ka kc im
theorem Ms.ok.next (h : s.ok inp) (hp : s.pc < s.xs.length) : ({ s with pc := s.pc + 1 }).ok inp :=
  ⟨h.r16, h.rr, h.h0, by have := h.pc0; show 0 ≤ s.pc + 1; omega, by have := h.xs1; show s.pc + 1 < _; omega, h.xs1, h.xr, h.rd1, h.in1, h.out1, h.outr, h.en0, h.tr0⟩
theorem Ms.ok.step (h : s.ok inp) : (s.step inp).ok inp := by
  unfold Ms.step
  split
  · rename_i hp
    split
    · rename_i hd
      exact (h.next hp).exec (gd_dec hd).im1
    · exact h.en (by decide)
  · exact h.en (by decide)
theorem Ms.ok.it (h : s.ok inp) (k : Nat) : (it inp k s).ok inp := by
  induction k generalizing s with
  | zero => exact h
  | succ k ih =>
    by_cases e : s.en = 3
    · rw [(it_succ inp k s e).1]; exact ih h.step
    · rw [(it_end inp _ s e).1]; exact h
end
end Go.Proofs.YtfdofleohichiaaGreatDoor.Cpu
