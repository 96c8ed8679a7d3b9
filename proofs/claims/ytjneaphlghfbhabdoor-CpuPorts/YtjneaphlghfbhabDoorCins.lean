/-
  A step at an instruction that was written: what it does.
-/
import Derived.Test.YtjneaphlghfbhabDoorCplay2
namespace Go.Proofs.YtjneaphlghfbhabDoor.Cpu
open Go.RowKit Go.Proofs.YtjneaphlghfbhabDoor.Bits Go.Proofs.YtjneaphlghfbhabDoor.Gw Go.Proofs.YtjneaphlghfbhabDoor.Risc Go.Proofs.YtjneaphlghfbhabDoor.Alu Go.Proofs.YtjneaphlghfbhabDoor.Mem
set_option linter.unusedVariables false

theorem word_read {i : Ins} (h : i.good = true) : decB i.word = true ∧ uF i.word = i.f ∧ uU i.word = i.u ∧ uV i.word = i.v ∧ uA i.word = i.a ∧ uB i.word = i.b ∧ uC i.word = i.c ∧ uOp i.word = i.op ∧ uIm i.word = i.im := by
  have h' : goodB i.f i.u i.v i.a i.b i.c i.op i.im = true := by rw [good_eq]; exact h
  obtain ⟨h1, h2⟩ := read_written h'
  refine ⟨h1, ?_⟩
  simp only [uIns, ins, Value.agg.injEq, Array.mk.injEq, List.cons.injEq, Value.int.injEq, Value.bool.injEq, true_and, and_true] at h2
  exact h2
theorem step_ins {inp : ByteArray} {s : Ms} {i : Ins} {k : Nat} (hp : s.pc = k) (h : s.xs[k]? = some i.word) (hg : i.good = true) :
    s.step inp = { s with pc := s.pc + 1 }.exec inp i.f i.u i.v i.a.toNat i.b.toNat i.c.toNat i.op i.im := by
  obtain ⟨h1, e1, e2, e3, e4, e5, e6, e7, e8⟩ := word_read hg
  have hk : k < s.xs.length := (List.getElem?_eq_some_iff.1 h).1
  have ha : at0 s.xs s.pc.toNat = i.word := by
    unfold at0
    rw [hp]
    simp [h]
  unfold Ms.step
  rw [if_pos (by rw [hp]; omega), ha, if_pos h1]
  unfold Ms.word
  rw [e1, e2, e3, e4, e5, e6, e7, e8]
theorem code_at {is : List Ins} {k : Nat} {i : Ins} (h : is[k]? = some i) : (codeL is)[k]? = some i.word := by
  have hk : k < is.length := (List.getElem?_eq_some_iff.1 h).1
  unfold codeL
  rw [List.getElem?_append_left (by simpa using hk)]
  simp [h]
theorem at_set (l : List Int) (k : Nat) (x : Int) (h : k < l.length) : at0 (l.set k x) k = x := by simp [at0, h]
theorem at_set_ne (l : List Int) (k j : Nat) (x : Int) (h : k ≠ j) : at0 (l.set k x) j = at0 l j := by
  unfold at0
  rw [List.getD_eq_getElem?_getD, List.getD_eq_getElem?_getD, List.getElem?_set_ne h]
theorem or_parts (x : Int) (x0 : 0 ≤ x) (x1 : x < 4294967296) : Go.bits .or .u32 (x / 65536 * 65536) (x % 65536) = x := by
  obtain ⟨n, rfl⟩ := Int.eq_ofNat_of_zero_le x0
  rw [u32_or _ _ (by omega) (by omega) (by omega) (by omega)]
  have p16 : (2 : Nat) ^ 16 = 65536 := by decide
  have e := Bm.or_join 16 (n / 65536) (n % 65536) (by have := Nat.mod_lt n (show 65536 > 0 by decide); omega)
  have e1 : ((n : Int) / 65536 * 65536).toNat = n / 65536 * 65536 := by omega
  have e2 : ((n : Int) % 65536).toNat = n % 65536 := by omega
  have e3 : (n / 65536) * 2 ^ 16 = n / 65536 * 65536 := rfl
  rw [e1, e2, Nat.or_comm]
  rw [e3] at e
  rw [e]
  omega
end Go.Proofs.YtjneaphlghfbhabDoor.Cpu
