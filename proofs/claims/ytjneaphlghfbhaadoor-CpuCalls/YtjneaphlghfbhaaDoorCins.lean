/-
  A step at an instruction that was written: what it does.
-/
import Derived.Test.YtjneaphlghfbhaaDoorCplay2
namespace Go.Proofs.YtjneaphlghfbhaaDoor.Cpu
open Go.RowKit Go.Proofs.YtjneaphlghfbhaaDoor.Bits Go.Proofs.YtjneaphlghfbhaaDoor.Gw Go.Proofs.YtjneaphlghfbhaaDoor.Risc Go.Proofs.YtjneaphlghfbhaaDoor.Alu Go.Proofs.YtjneaphlghfbhaaDoor.Mem
set_option linter.unusedVariables false

theorem word_read {i : Ins} (h : i.good = true) : decB i.word = true ∧ uF i.word = i.f ∧ uU i.word = i.u ∧ uV i.word = i.v ∧ uA i.word = i.a ∧ uB i.word = i.b ∧ uC i.word = i.c ∧ uOp i.word = i.op ∧ uIm i.word = i.im := by
  have h' : goodB i.f i.u i.v i.a i.b i.c i.op i.im = true := by rw [good_eq]; exact h
  obtain ⟨h1, h2⟩ := read_written h'
  refine ⟨h1, ?_⟩
  simp only [uIns, ins, Value.agg.injEq, Array.mk.injEq, List.cons.injEq, Value.int.injEq, Value.bool.injEq, true_and, and_true] at h2
  exact h2
theorem step_ins {inp : ByteArray} {s : Ms} {i : Ins} {k : Nat} (hp : s.pc = k) (h : s.xs[k]? = some i.word) (hg : i.good = true) :
    s.step inp = { s with pc := s.pc + 1 }.exec inp i.f i.u i.v i.a.toNat i.b.toNat i.c.toNat i.op i.im := by
  obtain ⟨h1, e1, e2, e3, e4, e5, e6, e7, e8⟩ := word_read hg
  have hk : k < s.xs.length := (List.getElem?_eq_some_iff.1 h).1
  have ha : at0 s.xs s.pc.toNat = i.word := by
    unfold at0
    rw [hp]
    simp [h]
  unfold Ms.step
  rw [if_pos (by rw [hp]; omega), ha, if_pos h1]
  unfold Ms.word
  rw [e1, e2, e3, e4, e5, e6, e7, e8]
theorem code_at {is : List Ins} {k : Nat} {i : Ins} (h : is[k]? = some i) : (codeL is)[k]? = some i.word := by
  have hk : k < is.length := (List.getElem?_eq_some_iff.1 h).1
  unfold codeL
  rw [List.getElem?_append_left (by simpa using hk)]
  simp [h]
theorem at_set (l : List Int) (k : Nat) (x : Int) (h : k < l.length) : at0 (l.set k x) k = x := by simp [at0, h]
theorem at_set_ne (l : List Int) (k j : Nat) (x : Int) (h : k ≠ j) : at0 (l.set k x) j = at0 l j := by
  unfold at0
  rw [List.getD_eq_getElem?_getD, List.getD_eq_getElem?_getD, List.getElem?_set_ne h]
theorem or_parts (x : Int) (x0 : 0 ≤ x) (x1 : x < 4294967296) : Go.bits .or .u32 (x / 65536 * 65536) (x % 65536) = x := by
  obtain ⟨n, rfl⟩ := Int.eq_ofNat_of_zero_le x0
  rw [u32_or _ _ (by omega) (by omega) (by omega) (by omega)]
  have p16 : (2 : Nat) ^ 16 = 65536 := by decide
  have e := Bm.or_join 16 (n / 65536) (n % 65536) (by have := Nat.mod_lt n (show 65536 > 0 by decide); omega)
  have e1 : ((n : Int) / 65536 * 65536).toNat = n / 65536 * 65536 := by omega
  have e2 : ((n : Int) % 65536).toNat = n % 65536 := by omega
  have e3 : (n / 65536) * 2 ^ 16 = n / 65536 * 65536 := rfl
  rw [e1, e2, Nat.or_comm]
  rw [e3] at e
  rw [e]
  omega
/- Three instructions: a word into a register, the flags into the next one. -/
def loadIs (x : Int) (a b : Nat) : List Ins := [⟨1, true, false, a, 0, 0, 0, x / 65536⟩, ⟨1, false, false, a, a, 0, 6, x % 65536⟩, ⟨0, true, true, b, 0, 0, 0, 0⟩]
theorem load_good (x : Int) (a b : Nat) (hb : (a + 1) % 16 = b) (x0 : 0 ≤ x) (x1 : x < 4294967296) (ha : a < 16) : ∀ i ∈ loadIs x a b, i.good = true := by
  intro i hi
  simp only [loadIs, List.mem_cons, List.mem_nil_iff, or_false] at hi
  have h1 : 0 ≤ x / 65536 ∧ x / 65536 ≤ 65535 := by omega
  have h2 : 0 ≤ x % 65536 ∧ x % 65536 ≤ 65535 := by omega
  have h3 : b ≤ 15 := by omega
  rcases hi with rfl | rfl | rfl
  · simp [Ins.good, goodR, inB, uokB, h1]; omega
  · simp [Ins.good, goodR, inB, uokB, h2]; omega
  · simp [Ins.good, goodR, inB, uokB]; omega
theorem load_ran (x : Int) (a b : Nat) (hb : (a + 1) % 16 = b) (x0 : 0 ≤ x) (x1 : x < 4294967296) (ha : a < 16) : ∃ S, it ⟨#[]⟩ 3 (Ms.init (codeL (loadIs x a b)) 0) = S ∧ S.en = 3 ∧ S.pc = 3 ∧ at0 S.R a = x ∧ at0 S.R b = flW (sgB x) (x == 0) false false := by
  have hg := load_good x a b hb x0 x1 ha
  obtain ⟨s0, hs0⟩ : ∃ s0, Ms.init (codeL (loadIs x a b)) 0 = s0 := ⟨_, rfl⟩
  have r0 : s0.R.length = 16 := by rw [← hs0]; rfl
  have p0 : s0.pc = ((0 : Nat) : Int) := by rw [← hs0]; rfl
  have n0 : s0.en = 3 := by rw [← hs0]; rfl
  have c0 : s0.xs = codeL (loadIs x a b) := by rw [← hs0]; rfl
  have v0 : s0.c = false ∧ s0.v = false := by rw [← hs0]; exact ⟨rfl, rfl⟩
  have e1 := step_ins (inp := ⟨#[]⟩) p0 (by rw [c0]; exact code_at (i := ⟨1, true, false, a, 0, 0, 0, x / 65536⟩) rfl) (hg _ (by simp [loadIs]))
  obtain ⟨s1, hs1⟩ : ∃ s1, ({ s0 with pc := s0.pc + 1 } : Ms).setBy a (x / 65536 * 65536) = s1 := ⟨_, rfl⟩
  have e1' : s0.step ⟨#[]⟩ = s1 := by rw [e1, ← hs1]; simp [Ms.exec, Ms.reckon]
  have r1 : s1.R = s0.R.set a (x / 65536 * 65536) := by rw [← hs1]; rfl
  have p1 : s1.pc = ((1 : Nat) : Int) := by rw [← hs1]; show s0.pc + 1 = _; rw [p0]; rfl
  have n1 : s1.en = 3 := by rw [← hs1]; exact n0
  have c1 : s1.xs = codeL (loadIs x a b) := by rw [← hs1]; exact c0
  have v1 : s1.c = false ∧ s1.v = false := by rw [← hs1]; exact v0
  have e2 := step_ins (inp := ⟨#[]⟩) p1 (by rw [c1]; exact code_at (i := ⟨1, false, false, a, a, 0, 6, x % 65536⟩) rfl) (hg _ (by simp [loadIs]))
  have hor : rI 6 false (at0 s1.R a) (x % 65536) s1.h s1.c = x := by
    rw [r1, at_set _ _ _ (by omega)]
    show Go.bits .or .u32 (x / 65536 * 65536) (x % 65536) = x
    exact or_parts x x0 x1
  obtain ⟨s2, hs2⟩ : ∃ s2, ({ s1 with pc := s1.pc + 1 } : Ms).did 6 false a a (x % 65536) = s2 := ⟨_, rfl⟩
  have e2' : s1.step ⟨#[]⟩ = s2 := by rw [e2, ← hs2]; simp [Ms.exec, Ms.reckon, Ms.opd]
  have r2 : s2.R = s1.R.set a x := by rw [← hs2]; show s1.R.set a (rI 6 false (at0 s1.R a) (x % 65536) s1.h s1.c) = _; rw [hor]
  have p2 : s2.pc = ((2 : Nat) : Int) := by rw [← hs2]; show s1.pc + 1 = _; rw [p1]; rfl
  have n2 : s2.en = 3 := by rw [← hs2]; exact n1
  have c2 : s2.xs = codeL (loadIs x a b) := by rw [← hs2]; exact c1
  have f2 : s2.n = sgB x ∧ s2.z = (x == 0) ∧ s2.c = false ∧ s2.v = false := by
    rw [← hs2]
    exact ⟨by show sgB (rI 6 false (at0 s1.R a) (x % 65536) s1.h s1.c) = _; rw [hor], by show (rI 6 false (at0 s1.R a) (x % 65536) s1.h s1.c == 0) = _; rw [hor], v1.1, v1.2⟩
  have e3 := step_ins (inp := ⟨#[]⟩) p2 (by rw [c2]; exact code_at (i := ⟨0, true, true, b, 0, 0, 0, 0⟩) rfl) (hg _ (by simp [loadIs]))
  refine ⟨_, rfl, ?_⟩
  have hi : it ⟨#[]⟩ 3 s0 = ({ s2 with pc := s2.pc + 1 } : Ms).setBy b (flW s2.n s2.z s2.c s2.v) := by
    rw [(it_succ _ _ _ n0).1, e1', (it_succ _ _ _ n1).1, e2', (it_succ _ _ _ n2).1, e3]
    simp [it, Ms.exec, Ms.reckon]
  rw [hs0, hi, f2.1, f2.2.1, f2.2.2.1, f2.2.2.2]
  have hne : b ≠ a := by omega
  refine ⟨n2, by show s2.pc + 1 = 3; rw [p2]; rfl, ?_, ?_⟩
  · show at0 (s2.R.set b _) a = x
    rw [at_set_ne _ _ _ _ hne, r2, at_set _ _ _ (by rw [r1]; simp; omega)]
  · show at0 (s2.R.set b _) b = _
    rw [at_set _ _ _ (by rw [r2, r1]; simp; omega)]
end Go.Proofs.YtjneaphlghfbhaaDoor.Cpu
