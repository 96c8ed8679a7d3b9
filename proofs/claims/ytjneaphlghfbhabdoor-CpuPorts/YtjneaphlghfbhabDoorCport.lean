/-
  The loop over the ports, as a function: it puts its input out, byte by byte, and halts behind it.
-/
import Derived.Test.YtjneaphlghfbhabDoorCins
namespace Go.Proofs.YtjneaphlghfbhabDoor.Cpu
open Go.RowKit Go.Proofs.YtjneaphlghfbhabDoor.Bits Go.Proofs.YtjneaphlghfbhabDoor.Gw Go.Proofs.YtjneaphlghfbhabDoor.Risc Go.Proofs.YtjneaphlghfbhabDoor.Alu Go.Proofs.YtjneaphlghfbhabDoor.Mem
set_option linter.unusedVariables false

def portIs : List Ins := [⟨1, true, false, 1, 0, 0, 0, 65535⟩, ⟨1, false, false, 1, 1, 0, 8, 65472⟩, ⟨2, false, false, 2, 1, 0, 0, 12⟩, ⟨3, true, false, 1, 0, 0, 0, 3⟩, ⟨2, false, false, 3, 1, 0, 0, 8⟩, ⟨2, true, false, 3, 1, 0, 0, 8⟩, ⟨3, true, false, 7, 0, 0, 0, -5⟩, ⟨2, true, false, 0, 1, 0, 0, 0⟩]
theorem port_good : ∀ i ∈ portIs, i.good = true := by decide
def bl (inp : ByteArray) (j : Nat) : List Int := (List.range j).map (inAt inp)
theorem bl_succ (inp : ByteArray) (j : Nat) : bl inp (j + 1) = bl inp j ++ [inAt inp j] := by simp [bl, List.range_succ]
theorem bl_len (inp : ByteArray) (j : Nat) : (bl inp j).length = j := by simp [bl]
theorem strO_bl (inp : ByteArray) : strO (bl inp inp.size) = inp := by
  apply ByteArray.ext
  apply Array.ext'
  show ((bl inp inp.size).map fun n => UInt8.ofNat n.toNat) = inp.data.toList
  apply List.ext_getElem
  · rw [List.length_map, bl_len]; rfl
  · intro i h1 h2
    have hi : i < inp.data.size := by simpa using h2
    simp only [bl, List.getElem_map, List.getElem_range, inAt]
    simp
    rw [Array.getElem?_eq_getElem hi]
    rfl
structure Pt (inp : ByteArray) (pc : Int) (j : Nat) (s : Ms) : Prop where
  pc : s.pc = pc
  r1 : at0 s.R 1 = 4294967232
  r16 : s.R.length = 16
  en : s.en = 3
  xs : s.xs = codeL portIs
section
variable {inp : ByteArray} {j : Nat} {s : Ms}
theorem port_at (k : Nat) (i : Ins) (h : portIs[k]? = some i) : (codeL portIs)[k]? = some i.word := code_at h
theorem pt_step {pc j : Nat} (h : Pt inp pc j s) (i : Ins) (hi : portIs[pc]? = some i) : s.step inp = { s with pc := (pc : Int) + 1 }.exec inp i.f i.u i.v i.a.toNat i.b.toNat i.c.toNat i.op i.im := by
  have := step_ins (inp := inp) (i := i) h.pc (by rw [h.xs]; exact code_at hi) (port_good i (List.mem_of_getElem? hi))
  rw [this, h.pc]
/- Is there a byte? -/
theorem pt_a (h : Pt inp (2 : Nat) j s) (hr : s.rd = j) (v : Int) (hv : (if j < inp.size then 1 else 0) = v) : s.step inp = { s with pc := 3, R := s.R.set 2 v, n := sgB v, z := v == 0 } := by
  rw [pt_step h _ rfl]
  simp [Ms.exec, Ms.access, plI, h.r1, Ms.load, ldB, ldV, ldR, hr, hv, Ms.setBy]
theorem pt_b0 (h : Pt inp (3 : Nat) j s) (hz : s.z = false) : s.step inp = { s with pc := 4 } := by
  rw [pt_step h _ rfl]
  have : holdsB 1 s.n s.z s.c s.v = false := by rw [hz]; simp [holdsB, tellsB]
  simp [Ms.exec, Ms.jump, this]
theorem pt_b1 (h : Pt inp (3 : Nat) j s) (hz : s.z = true) : s.step inp = { s with pc := 7 } := by
  rw [pt_step h _ rfl]
  have : holdsB 1 s.n s.z s.c s.v = true := by rw [hz]; simp [holdsB, tellsB]
  simp [Ms.exec, Ms.jump, Ms.target, this]
theorem pt_c (h : Pt inp (4 : Nat) j s) (hr : s.rd = j) (hj : j < inp.size) : s.step inp = { s with pc := 5, R := s.R.set 3 (inAt inp j), n := sgB (inAt inp j), z := inAt inp j == 0, rd := j + 1 } := by
  rw [pt_step h _ rfl]
  simp [Ms.exec, Ms.access, plI, h.r1, Ms.load, ldB, ldV, ldR, hr, hj, Ms.setBy]
theorem pt_d (h : Pt inp (5 : Nat) j s) (y : Int) (hy : at0 s.R 3 = y) (hb : 0 ≤ y ∧ y < 256) (ho : s.out.length < 4096) : s.step inp = { s with pc := 6, out := s.out ++ [y] } := by
  rw [pt_step h _ rfl]
  have e : y % 256 = y := by omega
  have ho' : ¬ 4096 ≤ s.out.length := by omega
  simp [Ms.exec, Ms.access, plI, h.r1, Ms.store, Ms.put, hy, e, ho']
theorem pt_e (h : Pt inp (6 : Nat) j s) : s.step inp = { s with pc := 2 } := by
  rw [pt_step h _ rfl]
  simp [Ms.exec, Ms.jump, Ms.target, holdsB, tellsB]
theorem pt_z (h : Pt inp (7 : Nat) j s) : s.step inp = { s with pc := 8, en := 1 } := by
  rw [pt_step h _ rfl]
  simp [Ms.exec, Ms.access, plI, h.r1, Ms.store]
theorem it_one {k : Nat} {s' : Ms} (h : s.en = 3) (e : s.step inp = s') : it inp (k + 1) s = it inp k s' ∧ ct inp (k + 1) s = ct inp k s' + 1 := by
  rw [← e]; exact it_succ inp k s h
/- One round: one byte. -/
theorem pt_round (h : Pt inp (2 : Nat) j s) (hr : s.rd = j) (ho : s.out = bl inp j) (hj : j < inp.size) (hs : inp.size ≤ 4000) (k : Nat) :
    ∃ s', it inp (k + 5) s = it inp k s' ∧ ct inp (k + 5) s = ct inp k s' + 5 ∧ Pt inp (2 : Nat) (j + 1) s' ∧ s'.rd = j + 1 ∧ s'.out = bl inp (j + 1) := by
  have a := pt_a h hr 1 (by rw [if_pos hj])
  obtain ⟨s1, hs1⟩ : ∃ s1 : Ms, { s with pc := 3, R := s.R.set 2 1, n := sgB 1, z := (1 : Int) == 0 } = s1 := ⟨_, rfl⟩
  rw [hs1] at a
  have h1 : Pt inp (3 : Nat) j s1 := by rw [← hs1]; exact ⟨rfl, by rw [at_set_ne _ _ _ _ (by decide)]; exact h.r1, by simp [h.r16], h.en, h.xs⟩
  have q1 : s1.z = false ∧ s1.rd = j ∧ s1.out = bl inp j := by rw [← hs1]; exact ⟨rfl, hr, ho⟩
  have b := pt_b0 h1 q1.1
  obtain ⟨s2, hs2⟩ : ∃ s2 : Ms, { s1 with pc := 4 } = s2 := ⟨_, rfl⟩
  rw [hs2] at b
  have h2 : Pt inp (4 : Nat) j s2 := by rw [← hs2]; exact ⟨rfl, h1.r1, h1.r16, h1.en, h1.xs⟩
  have q2 : s2.rd = j ∧ s2.out = bl inp j := by rw [← hs2]; exact q1.2
  have c := pt_c h2 q2.1 hj
  obtain ⟨s3, hs3⟩ : ∃ s3 : Ms, { s2 with pc := 5, R := s2.R.set 3 (inAt inp j), n := sgB (inAt inp j), z := inAt inp j == 0, rd := j + 1 } = s3 := ⟨_, rfl⟩
  rw [hs3] at c
  have h3 : Pt inp (5 : Nat) j s3 := by rw [← hs3]; exact ⟨rfl, by rw [at_set_ne _ _ _ _ (by decide)]; exact h2.r1, by simp [h2.r16], h2.en, h2.xs⟩
  have q3 : s3.rd = j + 1 ∧ s3.out = bl inp j ∧ at0 s3.R 3 = inAt inp j := by rw [← hs3]; exact ⟨rfl, q2.2, at_set _ _ _ (by rw [h2.r16]; decide)⟩
  have d := pt_d h3 _ q3.2.2 (in_size inp j) (by rw [q3.2.1, bl_len]; omega)
  rw [q3.2.1, ← bl_succ] at d
  obtain ⟨s4, hs4⟩ : ∃ s4 : Ms, { s3 with pc := 6, out := bl inp (j + 1) } = s4 := ⟨_, rfl⟩
  rw [hs4] at d
  have h4 : Pt inp (6 : Nat) j s4 := by rw [← hs4]; exact ⟨rfl, h3.r1, h3.r16, h3.en, h3.xs⟩
  have q4 : s4.rd = j + 1 ∧ s4.out = bl inp (j + 1) := by rw [← hs4]; exact ⟨q3.1, rfl⟩
  have e := pt_e h4
  refine ⟨{ s4 with pc := 2 }, ?_, ?_, ⟨rfl, h4.r1, h4.r16, h4.en, h4.xs⟩, q4.1, q4.2⟩
  · rw [show k + 5 = (((k + 1 + 1) + 1) + 1) + 1 by omega, (it_one h.en a).1, (it_one h1.en b).1, (it_one h2.en c).1, (it_one h3.en d).1, (it_one h4.en e).1]
  · rw [show k + 5 = (((k + 1 + 1) + 1) + 1) + 1 by omega, (it_one h.en a).2, (it_one h1.en b).2, (it_one h2.en c).2, (it_one h3.en d).2, (it_one h4.en e).2]
theorem pt_last (h : Pt inp (2 : Nat) inp.size s) (hr : s.rd = inp.size) (k : Nat) : ∃ s', it inp (k + 3) s = s' ∧ ct inp (k + 3) s = 3 ∧ s'.en = 1 ∧ s'.out = s.out ∧ s'.rd = s.rd := by
  have a := pt_a h hr 0 (by rw [if_neg (by omega)])
  obtain ⟨s1, hs1⟩ : ∃ s1 : Ms, { s with pc := 3, R := s.R.set 2 0, n := sgB 0, z := (0 : Int) == 0 } = s1 := ⟨_, rfl⟩
  rw [hs1] at a
  have h1 : Pt inp (3 : Nat) inp.size s1 := by rw [← hs1]; exact ⟨rfl, by rw [at_set_ne _ _ _ _ (by decide)]; exact h.r1, by simp [h.r16], h.en, h.xs⟩
  have q1 : s1.z = true ∧ s1.rd = s.rd ∧ s1.out = s.out := by rw [← hs1]; exact ⟨rfl, rfl, rfl⟩
  have b := pt_b1 h1 q1.1
  obtain ⟨s2, hs2⟩ : ∃ s2 : Ms, { s1 with pc := 7 } = s2 := ⟨_, rfl⟩
  rw [hs2] at b
  have h2 : Pt inp (7 : Nat) inp.size s2 := by rw [← hs2]; exact ⟨rfl, h1.r1, h1.r16, h1.en, h1.xs⟩
  have q2 : s2.rd = s.rd ∧ s2.out = s.out := by rw [← hs2]; exact q1.2
  have c := pt_z h2
  have z := it_end inp k ({ s2 with pc := 8, en := 1 } : Ms) (by show (1 : Int) ≠ 3; decide)
  refine ⟨{ s2 with pc := 8, en := 1 }, ?_, ?_, rfl, q2.2, q2.1⟩
  · rw [show k + 3 = (k + 1 + 1) + 1 by omega, (it_one h.en a).1, (it_one h1.en b).1, (it_one h2.en c).1, z.1]
  · rw [show k + 3 = (k + 1 + 1) + 1 by omega, (it_one h.en a).2, (it_one h1.en b).2, (it_one h2.en c).2, z.2]
theorem pt_all (d : Nat) : ∀ (j : Nat) (s : Ms), Pt inp (2 : Nat) j s → s.rd = j → s.out = bl inp j → j + d = inp.size → inp.size ≤ 4000 → ∀ k, ∃ s', it inp (k + 3 + 5 * d) s = s' ∧ ct inp (k + 3 + 5 * d) s = 3 + 5 * d ∧ s'.en = 1 ∧ s'.out = bl inp inp.size ∧ s'.rd = inp.size := by
  induction d with
  | zero =>
    intro j s h hr ho hd' hs k
    obtain rfl : j = inp.size := by omega
    obtain ⟨s', e1, e2, e3, e4, e5⟩ := pt_last h hr k
    exact ⟨s', e1, e2, e3, by rw [e4, ho], by rw [e5, hr]⟩
  | succ d ih =>
    intro j s h hr ho hd' hs k
    obtain ⟨s1, f1, f2, f3, f4, f5⟩ := pt_round h hr ho (by omega) hs (k + 3 + 5 * d)
    obtain ⟨s', e1, e2, e3⟩ := ih (j + 1) s1 f3 f4 f5 (by omega) hs k
    refine ⟨s', ?_, ?_, e3⟩
    · rw [show k + 3 + 5 * (d + 1) = k + 3 + 5 * d + 5 by omega, f1, e1]
    · rw [show k + 3 + 5 * (d + 1) = k + 3 + 5 * d + 5 by omega, f2, e2]; omega
theorem port_ran (hs : inp.size ≤ 500) : ∃ S, it inp 10000 (Ms.init (codeL portIs) 0) = S ∧ ct inp 10000 (Ms.init (codeL portIs) 0) = 5 + 5 * inp.size ∧ S.en = 1 ∧ strO S.out = inp ∧ S.rd = inp.size := by
  obtain ⟨s0, hs0⟩ : ∃ s0, Ms.init (codeL portIs) 0 = s0 := ⟨_, rfl⟩
  have n0 : s0.en = 3 := by rw [← hs0]; rfl
  have c0 : s0.xs = codeL portIs := by rw [← hs0]; rfl
  have R0 : s0.R = List.replicate 16 0 := by rw [← hs0]; rfl
  have f0 : s0.rd = 0 ∧ s0.out = [] ∧ s0.h = 0 := by rw [← hs0]; exact ⟨rfl, rfl, rfl⟩
  have e1 := step_ins (inp := inp) (s := s0) (i := ⟨1, true, false, 1, 0, 0, 0, 65535⟩) (k := 0) (by rw [← hs0]; rfl) (by rw [c0]; exact code_at rfl) (by decide)
  obtain ⟨s1, hs1⟩ : ∃ s1 : Ms, ({ s0 with pc := s0.pc + 1 } : Ms).setBy 1 4294901760 = s1 := ⟨_, rfl⟩
  have e1' : s0.step inp = s1 := by rw [e1, ← hs1]; simp [Ms.exec, Ms.reckon]
  have p1 : s1.pc = ((1 : Nat) : Int) := by rw [← hs1, ← hs0]; rfl
  have n1 : s1.en = 3 := by rw [← hs1]; exact n0
  have c1 : s1.xs = codeL portIs := by rw [← hs1]; exact c0
  have R1 : s1.R = s0.R.set 1 4294901760 := by rw [← hs1]; rfl
  have f1 : s1.rd = 0 ∧ s1.out = [] ∧ s1.c = s0.c := by rw [← hs1]; exact ⟨f0.1, f0.2.1, rfl⟩
  have e2 := step_ins (inp := inp) (s := s1) (i := ⟨1, false, false, 1, 1, 0, 8, 65472⟩) (k := 1) p1 (by rw [c1]; exact code_at rfl) (by decide)
  obtain ⟨s2, hs2⟩ : ∃ s2 : Ms, ({ s1 with pc := s1.pc + 1 } : Ms).did 8 false 1 1 65472 = s2 := ⟨_, rfl⟩
  have e2' : s1.step inp = s2 := by rw [e2, ← hs2]; simp [Ms.exec, Ms.reckon, Ms.opd]
  have hr : rI 8 false (at0 s1.R 1) 65472 s1.h s1.c = 4294967232 := by
    rw [R1, at_set _ _ _ (by rw [R0]; decide)]
    simp [rI, cI]
  have R2 : s2.R = s1.R.set 1 4294967232 := by rw [← hs2]; show s1.R.set 1 (rI 8 false (at0 s1.R 1) 65472 s1.h s1.c) = _; rw [hr]
  have P2 : Pt inp (2 : Nat) 0 s2 := ⟨by rw [← hs2]; show s1.pc + 1 = _; rw [p1]; rfl, by rw [R2, at_set _ _ _ (by rw [R1, R0]; decide)], by rw [R2, R1, R0]; rfl, by rw [← hs2]; exact n1, by rw [← hs2]; exact c1⟩
  have g2 : s2.rd = 0 ∧ s2.out = bl inp 0 := by rw [← hs2]; exact ⟨f1.1, f1.2.1⟩
  obtain ⟨S, h1, h2, h3, h4, h5⟩ := pt_all inp.size 0 s2 P2 g2.1 g2.2 (by omega) (by omega) (9995 - 5 * inp.size)
  have ek : 10000 = (9995 - 5 * inp.size + 3 + 5 * inp.size) + 1 + 1 := by omega
  refine ⟨S, ?_, ?_, h3, by rw [h4]; exact strO_bl inp, h5⟩
  · rw [ek, hs0, (it_one n0 e1').1, (it_one n1 e2').1, h1]
  · rw [ek, hs0, (it_one n0 e1').2, (it_one n1 e2').2, h2]; omega
end
end Go.Proofs.YtjneaphlghfbhabDoor.Cpu
