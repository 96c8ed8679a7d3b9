/-
  The walk of CpuCalls.
-/
import Derived.Test.YtjneaphlghfbhaaDoorCins
import Derived.Test.YtjneaphlghfbhaaDoorCsep
namespace Go.Proofs.YtjneaphlghfbhaaDoor.Cpu
open Go.RowKit Go.Proofs.YtjneaphlghfbhaaDoor.Bits Go.Proofs.YtjneaphlghfbhaaDoor.Gw Go.Proofs.YtjneaphlghfbhaaDoor.Risc Go.Proofs.YtjneaphlghfbhaaDoor.Alu Go.Proofs.YtjneaphlghfbhaaDoor.Mem
set_option linter.unusedVariables false

def cI0 (cond k : Nat) : Ins := ⟨3, true, true, cond, 0, 0, 0, k + 1⟩
def cI1 : Ins := ⟨1, false, false, 2, 2, 0, 8, 1⟩
def cIa : Ins := ⟨1, false, false, 3, 3, 0, 8, 1⟩
def cIz : Ins := ⟨3, false, false, 7, 0, 15, 0, 0⟩
def callHd (cond k q : Nat) : List Ins := [cI0 cond k, cI1] ++ List.replicate q cIa
def callIs (cond k : Nat) : List Ins := callHd cond k k ++ [cIz]
theorem call_len (cond k q : Nat) : (callHd cond k q).length = 2 + q := by simp [callHd]; omega
theorem call_good (cond k : Nat) (hk : k < 20) (hc : cond = 7 ∨ cond = 15) : ∀ i ∈ callIs cond k, i.good = true := by
  intro i hi
  simp only [callIs, callHd, List.mem_append, List.mem_cons, List.mem_nil_iff, or_false] at hi
  rcases hi with ((rfl | rfl) | hi) | rfl
  · have h1 : fitsB ((k : Int) + 1) 24 = true := (fits24 _).2 (by omega)
    rcases hc with rfl | rfl <;> simp [cI0, Ins.good, goodR, inB, h1]
  · decide
  · rw [List.eq_of_mem_replicate hi]; decide
  · decide
theorem call_ran (k : Nat) (hk : k < 20) (h : Bool) : ∃ S, it ⟨#[]⟩ 2 (Ms.init (codeL (callIs (if h = true then 7 else 15) k)) 0) = S ∧ S.en = 3 ∧ S.pc = (if h = true then 1 else 2) ∧ at0 S.R 15 = (if h = true then 4 else 0) ∧ at0 S.R 2 = (if h = true then 0 else 1) := by
  obtain ⟨cond, hcd⟩ : ∃ cond, (if h = true then 7 else 15) = cond := ⟨_, rfl⟩
  have hg := call_good cond k hk (by rw [← hcd]; cases h <;> simp)
  rw [hcd]
  have a0 : (codeL (callIs cond k))[0]? = some (cI0 cond k).word := code_at (by simp [callIs, callHd])
  have a1 : (codeL (callIs cond k))[1]? = some cI1.word := code_at (by simp [callIs, callHd])
  have az : (codeL (callIs cond k))[k + 2]? = some cIz.word := code_at (by
    unfold callIs
    rw [List.getElem?_append_right (by rw [call_len]; omega), call_len, show k + 2 - (2 + k) = 0 by omega]; rfl)
  obtain ⟨s0, hs0⟩ : ∃ s0, Ms.init (codeL (callIs cond k)) 0 = s0 := ⟨_, rfl⟩
  have p0 : s0.pc = ((0 : Nat) : Int) := by rw [← hs0]; rfl
  have n0 : s0.en = 3 := by rw [← hs0]; rfl
  have c0 : s0.xs = codeL (callIs cond k) := by rw [← hs0]; rfl
  have R0 : s0.R = List.replicate 16 0 := by rw [← hs0]; rfl
  have f0 : s0.n = false ∧ s0.z = false ∧ s0.c = false ∧ s0.v = false ∧ s0.h = 0 := by rw [← hs0]; exact ⟨rfl, rfl, rfl, rfl, rfl⟩
  have e1 := step_ins (inp := ⟨#[]⟩) p0 (by rw [c0]; exact a0) (hg _ (by simp [callIs, callHd]))
  refine ⟨_, rfl, ?_⟩
  rw [hs0, (it_succ _ _ _ n0).1, e1]
  cases h
  · simp only [Bool.false_eq_true, if_false] at hcd ⊢
    subst hcd
    have e1' : ({ s0 with pc := s0.pc + 1 } : Ms).exec ⟨#[]⟩ (cI0 15 k).f (cI0 15 k).u (cI0 15 k).v (cI0 15 k).a.toNat (cI0 15 k).b.toNat (cI0 15 k).c.toNat (cI0 15 k).op (cI0 15 k).im = { s0 with pc := s0.pc + 1 } := by
      simp [cI0, Ms.exec, Ms.jump, f0, holdsB, tellsB]
    rw [e1', (it_succ ⟨#[]⟩ 0 ({ s0 with pc := s0.pc + 1 } : Ms) n0).1]
    have e2 := step_ins (inp := ⟨#[]⟩) (s := { s0 with pc := s0.pc + 1 }) (k := 1) (by show s0.pc + 1 = _; rw [p0]; rfl) (by show s0.xs[1]? = _; rw [c0]; exact a1) (hg _ (by simp [callIs, callHd]))
    rw [e2]
    simp [it, cI1, Ms.exec, Ms.reckon, Ms.opd, Ms.did, n0, p0, R0, f0, rI, cI, at0]
  · simp only [if_true] at hcd ⊢
    subst hcd
    have e1' : ({ s0 with pc := s0.pc + 1 } : Ms).exec ⟨#[]⟩ (cI0 7 k).f (cI0 7 k).u (cI0 7 k).v (cI0 7 k).a.toNat (cI0 7 k).b.toNat (cI0 7 k).c.toNat (cI0 7 k).op (cI0 7 k).im = { s0 with pc := (k : Int) + 2, R := s0.R.set 15 4 } := by
      simp [cI0, Ms.exec, Ms.jump, Ms.target, f0, holdsB, tellsB, p0]
      omega
    rw [e1', (it_succ ⟨#[]⟩ 0 ({ s0 with pc := (k : Int) + 2, R := s0.R.set 15 4 } : Ms) n0).1]
    have e2 := step_ins (inp := ⟨#[]⟩) (s := { s0 with pc := (k : Int) + 2, R := s0.R.set 15 4 }) (k := k + 2) (by show (k : Int) + 2 = _; omega) (by show s0.xs[k + 2]? = _; rw [c0]; exact az) (hg _ (by simp [callIs]))
    rw [e2]
    simp [it, cIz, Ms.exec, Ms.jump, Ms.target, f0, holdsB, tellsB, n0, R0, at0]
end Go.Proofs.YtjneaphlghfbhaaDoor.Cpu
