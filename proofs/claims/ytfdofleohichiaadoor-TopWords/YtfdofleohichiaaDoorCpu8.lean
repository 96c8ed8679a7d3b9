/-
  What a step of package cpu does.
-/
import Derived.Test.YtfdofleohichiaaDoorCpu7
namespace Go.Proofs.YtfdofleohichiaaDoor.Cpu
open Go.RowKit Go.Proofs.YtfdofleohichiaaDoor.Bits Go.Proofs.YtfdofleohichiaaDoor.Gw Go.Proofs.YtfdofleohichiaaDoor.Risc Go.Proofs.YtfdofleohichiaaDoor.Alu Go.Proofs.YtfdofleohichiaaDoor.Mem
set_option linter.unusedVariables false

section
variable {w : World} {a hb b : Nat} {o : Value} {inp : ByteArray} {s : Ms}
theorem of_set {w w' : World} {o : Value} {s' : Ms} {e : Ending} (h : e = .returned unit ∧ Mach w' a hb b o inp s' ∧ w.grownBy w' (some a)) : e = .returned unit ∧ ∃ o', Mach w' a hb b o' inp s' ∧ Chg (fp a b o) w w' ∧ Nw w o o' :=
  ⟨h.1, o, h.2.1, Chg.one h.2.2 (by simp [fp]), Nw.refl _ _⟩
theorem reckon_any (h : Mach w a hb b o inp s) (f : Int) (u v : Bool) (ka kb kc : Nat) (op im : Int) (hka : ka < 16) (hkb : kb < 16) (hkc : kc < 16) (hf : f = 0 ∨ f = 1) (hg : Gd f u v ka kb kc op im) :
    Calls Tryd.prog 22 #[ptr a, ins f u v ka kb kc op im] w fun e w' => e = .returned unit ∧ ∃ o', Mach w' a hb b o' inp (s.reckon f u v ka kb kc op im) ∧ Chg (fp a b o) w w' ∧ Nw w o o' := by
  unfold Ms.reckon
  by_cases h1 : op = 0 ∧ u = true ∧ f = 1
  · rw [if_pos h1]
    obtain ⟨ho, hu, rfl⟩ := h1
    exact (reckon_a h u v ka kb kc op im hka (hg.im1 rfl).1 (hg.im1 rfl).2 ho hu).mono fun _ _ k => of_set k
  · rw [if_neg h1]
    by_cases h2 : op = 0 ∧ u = true ∧ v = true
    · rw [if_pos h2]
      obtain ⟨ho, hu, hv⟩ := h2
      rcases hf with rfl | rfl
      · exact (reckon_b h u v ka kb kc op im hka ho hu hv).mono fun _ _ k => of_set k
      · exact absurd ⟨ho, hu, rfl⟩ h1
    · rw [if_neg h2]
      exact (reckon_c h f u v ka kb kc op im hka hkb hkc hf hg.im1 (hg.ok hf) h1 h2).mono fun _ _ k => of_set k
theorem jump_any (h : Mach w a hb b o inp s) (u v : Bool) (ka : Nat) (y : Int) (kc : Nat) (op im : Int) (hkc : kc < 16) (i0 : -8388608 ≤ im) (i1 : im ≤ 8388607) :
    Calls Tryd.prog 24 #[ptr a, ins 3 u v ka y kc op im] w fun e w' => e = .returned unit ∧ ∃ o', Mach w' a hb b o' inp (s.jump u v ka kc im) ∧ Chg (fp a b o) w w' ∧ Nw w o o' := by
  unfold Ms.jump
  cases hh : holdsB ka s.n s.z s.c s.v
  · exact (jump_no h u v ka y kc op im hh).mono fun _ _ ⟨k1, k2, k3⟩ => ⟨k1, o, k2, Chg.g k3, Nw.refl _ _⟩
  · exact jump_yes h u v ka y kc op im hkc i0 i1 hh
/- Where the word is, as a byte's place. -/
theorem at_pc {xs : List Int} {pc : Int} (h0 : 0 ≤ pc) (h1 : pc < 1073741824) : beB xs (pc * 4) = decide (pc < xs.length) ∧ (pc < xs.length → ldI xs (pc * 4) = at0 xs pc.toNat) := by
  have e1 : pc * 4 / 4 = pc := by omega
  have e2 : pc * 4 % 4 = 0 := by omega
  refine ⟨by simp [beB, e1, e2], fun h => ?_⟩
  have : beB xs (pc * 4) = true := by simp [beB, e1, e2, h]
  unfold ldI
  rw [if_pos this, e1]
theorem step_end {W w' : World} {o : Value} {s' : Ms} (g : G w W) (k : W.grownBy w' (some a)) (h : Mach w' a hb b o inp s') : ∃ o', Mach w' a hb b o' inp s' ∧ Chg (fp a b o) w w' ∧ Nw w o o' :=
  ⟨o, h, Chg.trans0 (Chg.g g) (Chg.one k (by simp [fp])), Nw.refl _ _⟩
set_option maxHeartbeats 1000000 in
set_option maxRecDepth 100000 in
theorem step_out (h : Mach w a hb b o inp s) (hp : ¬ s.pc < s.xs.length) :
    Calls Tryd.prog 14 #[ptr a] w fun e w' => e = .returned unit ∧ ∃ o', Mach w' a hb b o' inp { s with en := 5 } ∧ Chg (fp a b o) w w' ∧ Nw w o o' := by
  have HM := hd h
  have HOB := hd h.ob
  have c21 := h.cpc
  have c22 := h.cmem
  have c26 := h.cen
  have f26 := h.free 26
  have p0 := h.ok.pc0
  have p1 := h.ok.pc1
  have hb0 := (at_pc (xs := s.xs) p0 p1).1
  rw [show decide (s.pc < s.xs.length) = false by simpa using hp] at hb0
  have HB := hd hb0
  obtain ⟨V, hV⟩ : ∃ V, ldI s.xs (s.pc * 4) = V := ⟨_, rfl⟩
  have HV := hd hV
  obtain ⟨pc, hpc⟩ : ∃ pc, s.pc = pc := ⟨_, rfl⟩
  rw [hpc] at c21 p0 p1 HB HV
  have q0 : 0 ≤ pc * 4 := by omega
  have q1 : pc * 4 < 4294967296 := by omega
  have CL : ∀ W, G w W → Calls Tryd.prog 8 #[ptr hb, wd (pc * 4)] W fun e w' => e = .returned (.tuple #[wd V, .bool false]) ∧ w' = W := fun W g => by
    have := load_ob (HM.out.g g).ob (pc * 4) q0 q1
    rwa [HB.out, HV.out] at this
  have HE := hd (HM.out.en1 (e := 5) (by decide))
  clear h hp hV hpc hb0
  go_enter Tryd.func14, Tryd.ntmps14
  go_wp2
  go_quiet ((go_at_call 8; exact Calls.quiet_of_same (CL _ ((G.refl _).drewN _))))
  go_wp2
  refine bodyPost_ret (results_none rfl _ _ _) rfl ?_
  exact ⟨rfl, step_end ((G.refl _).drewN _) (grown_set _ _ _ _) ((HM.out.g ((G.refl _).drewN _)).en1 (by decide))⟩
theorem word_at (h : Mach w a hb b o inp s) (hp : s.pc < s.xs.length) : ∀ W, G w W → Calls Tryd.prog 8 #[ptr hb, wd (s.pc * 4)] W fun e w' => e = .returned (.tuple #[wd (at0 s.xs s.pc.toNat), .bool true]) ∧ w' = W := fun W g => by
  have p0 := h.ok.pc0
  have p1 := h.ok.pc1
  have := load_ob (h.g g).ob (s.pc * 4) (by omega) (by omega)
  rw [(at_pc (xs := s.xs) p0 p1).1, (at_pc (xs := s.xs) p0 p1).2 hp, decide_eq_true hp] at this
  exact this
set_option maxHeartbeats 1000000 in
set_option maxRecDepth 100000 in
theorem step_bad (h : Mach w a hb b o inp s) (hp : s.pc < s.xs.length) (hd' : decB (at0 s.xs s.pc.toNat) = false) :
    Calls Tryd.prog 14 #[ptr a] w fun e w' => e = .returned unit ∧ ∃ o', Mach w' a hb b o' inp { s with en := 4 } ∧ Chg (fp a b o) w w' ∧ Nw w o o' := by
  (have HM := hd h; have c21 := h.cpc; have c22 := h.cmem; have c26 := h.cen; have f26 := h.free 26; have f21 := h.free 21; have p0 := h.ok.pc0; have p1 := h.ok.pc1; have px := h.ok.xs1)
  have CL := word_at h hp
  have HR : Hid (W32 (at0 s.xs s.pc.toNat)) := hd (rng_at h.ok.xr _)
  obtain ⟨V, hV⟩ : ∃ V, at0 s.xs s.pc.toNat = V := ⟨_, rfl⟩
  rw [hV] at hd' CL HR
  have HD := hd hd'
  obtain ⟨pc, hpc⟩ : ∃ pc, s.pc = pc := ⟨_, rfl⟩
  rw [hpc] at c21 p0 p1 CL
  have q0 : 0 ≤ pc * 4 := by omega
  have q1 : pc * 4 < 4294967296 := by omega
  clear h hp hV hpc hd'
  go_enter Tryd.func14, Tryd.ntmps14
  go_wp2
  go_quiet ((go_at_call 8; exact Calls.quiet_of_same (CL _ ((G.refl _).drewN _))))
  go_upto_region 4 with (go_at_call 10; refine (decode_any _ _ ((HM.out.g ((G.refl _).drewN _)).laid) HR.out.1 HR.out.2).mono ?_; rw [if_neg (by rw [HD.out]; decide)]; rintro e w1 ⟨rfl, hg⟩; have HG1 := hd (G.trans (G.drewN (G.refl w) _) hg); clear hg)
  have HG2 := hd (HG1.out.alloc #[Value.int IntKind.i64 0, Value.bool false, Value.bool false, Value.int IntKind.i64 0, Value.int IntKind.i64 0, Value.int IntKind.i64 0, Value.int IntKind.i64 0, Value.int IntKind.i64 0] 39)
  generalize w1.alloc (Obj.cells #[Value.int IntKind.i64 0, Value.bool false, Value.bool false, Value.int IntKind.i64 0, Value.int IntKind.i64 0, Value.int IntKind.i64 0, Value.int IntKind.i64 0, Value.int IntKind.i64 0] 39) = W at HG2 ⊢
  replace c26 := (HM.out.g HG2.out).cen
  replace f26 := (HM.out.g HG2.out).free 26
  clear CL c21 c22 f21
  go_wp2
  refine bodyPost_ret (results_none rfl _ _ _) rfl ?_
  exact ⟨rfl, step_end HG2.out (grown_set _ _ _ _) ((HM.out.g HG2.out).en1 (by decide))⟩
theorem word_ins {V : Int} (hd' : decB V = true) : ∃ (f : Int) (u v : Bool) (ka kb kc : Nat) (op im : Int), uIns V = ins f u v ka kb kc op im ∧ Gd f u v ka kb kc op im ∧ ∀ s : Ms, s.word inp V = s.exec inp f u v ka kb kc op im := by
  have g := gd_dec hd'
  obtain ⟨ka, ha⟩ := Int.eq_ofNat_of_zero_le g.a0.1
  obtain ⟨kb, hb⟩ := Int.eq_ofNat_of_zero_le g.b0.1
  obtain ⟨kc, hc⟩ := Int.eq_ofNat_of_zero_le g.c0.1
  refine ⟨uF V, uU V, uV V, ka, kb, kc, uOp V, uIm V, by rw [← ha, ← hb, ← hc], by rw [← ha, ← hb, ← hc]; exact g, fun s => ?_⟩
  unfold Ms.word
  rw [ha, hb, hc]
  rfl
theorem from_chg {W w' : World} {o' : Value} {s' : Ms} (g : Chg (fp a b o) w W ∧ w.heap.size ≤ W.heap.size) (h : Mach w' a hb b o' inp s' ∧ Chg (fp a b o) W w' ∧ Nw W o o') : Mach w' a hb b o' inp s' ∧ Chg (fp a b o) w w' ∧ Nw w o o' :=
  ⟨h.1, Chg.trans0 g.1 h.2.1, h.2.2.back g.2⟩
set_option maxHeartbeats 2000000 in
set_option maxRecDepth 100000 in
theorem step_go (h : Mach w a hb b o inp s) (hp : s.pc < s.xs.length) (hd' : decB (at0 s.xs s.pc.toNat) = true) :
    Calls Tryd.prog 14 #[ptr a] w fun e w' => e = .returned unit ∧ ∃ o', Mach w' a hb b o' inp ({ s with pc := s.pc + 1 }.word inp (at0 s.xs s.pc.toNat)) ∧ Chg (fp a b o) w w' ∧ Nw w o o' := by
  (have HM := hd h; have c21 := h.cpc; have c22 := h.cmem; have c26 := h.cen; have f26 := h.free 26; have f21 := h.free 21; have p0 := h.ok.pc0; have p1 := h.ok.pc1; have px := h.ok.xs1)
  have CL := word_at h hp
  have HR : Hid (W32 (at0 s.xs s.pc.toNat)) := hd (rng_at h.ok.xr _)
  have hok := h.ok.next hp
  obtain ⟨V, hV⟩ : ∃ V, at0 s.xs s.pc.toNat = V := ⟨_, rfl⟩
  rw [hV] at hd' CL HR ⊢
  have HD := hd hd'
  obtain ⟨f, u, v, ka, kb, kc, op, im, hI, hG, hW⟩ := word_ins (inp := inp) hd'
  rw [hW]
  have HI := hd hI
  have HGd := hd hG
  have hka : ka < 16 := by have := hG.a0; omega
  have hkb : kb < 16 := by have := hG.b0; omega
  have hkc : kc < 16 := by have := hG.c0; omega
  have HOK := hd hok
  obtain ⟨s1, hs1⟩ : ∃ s1 : Ms, { s with pc := s.pc + 1 } = s1 := ⟨_, rfl⟩
  have HS1 := hd hs1
  rw [hs1]
  obtain ⟨pc, hpc⟩ : ∃ pc, s.pc = pc := ⟨_, rfl⟩
  have HPC := hd hpc
  have hn : pc + 1 < 1073741824 := by rw [← hpc]; omega
  rw [hpc] at c21 p0 p1 CL
  have q0 : 0 ≤ pc * 4 := by omega
  have q1 : pc * 4 < 4294967296 := by omega
  clear h hp hV hpc hd' hI hG hW hok hs1
  go_enter Tryd.func14, Tryd.ntmps14
  go_wp2
  go_quiet ((go_at_call 8; exact Calls.quiet_of_same (CL _ ((G.refl _).drewN _))))
  go_upto_region 4 with (go_at_call 10; refine (decode_any _ _ ((HM.out.g ((G.refl _).drewN _)).laid) HR.out.1 HR.out.2).mono ?_; rw [if_pos HD.out, HI.out]; rintro e w1 ⟨rfl, hg⟩; have HG1 := hd (G.trans (G.drewN (G.refl w) _) hg); clear hg)
  have HG2 := hd (HG1.out.alloc #[Value.int IntKind.i64 f, Value.bool u, Value.bool v, Value.int IntKind.i64 ↑ka, Value.int IntKind.i64 ↑kb, Value.int IntKind.i64 ↑kc, Value.int IntKind.i64 op, Value.int IntKind.i64 im] 39)
  have HBx := hd (bx_new w1 f u v ka kb kc op im)
  have nx : ¬ w1.heap.size = a := by have := HG1.out.size; have := HM.out.lt; omega
  generalize w1.alloc (Obj.cells #[Value.int IntKind.i64 f, Value.bool u, Value.bool v, Value.int IntKind.i64 ↑ka, Value.int IntKind.i64 ↑kb, Value.int IntKind.i64 ↑kc, Value.int IntKind.i64 op, Value.int IntKind.i64 im] 39) = W at HG2 HBx ⊢
  generalize w1.heap.size = X at HBx nx ⊢
  have HMW := hd (HM.out.g HG2.out)
  replace c21 := HMW.out.cpc
  replace f21 := HMW.out.free 21
  rw [HPC.out] at c21
  clear CL c22 c26 f26 HG1
  go_upto_region 7 with fail
  have HB3 := hd (HBx.out.by (grown_set W a 21 (.int .i64 (pc + 1))) (by simpa using fun e => nx e.symm))
  have HM3 := hd (HMW.out.pc1 (p := pc + 1) (by omega) hn)
  have e1 : { s with pc := pc + 1 } = s1 := by rw [← HS1.out, HPC.out]
  rw [e1] at HM3
  have HG3 : Hid (Chg (fp a b o) w (W.setCell ⟨a, 21, none⟩ (.int .i64 (pc + 1))) ∧ w.heap.size ≤ (W.setCell ⟨a, 21, none⟩ (.int .i64 (pc + 1))).heap.size) :=
    hd ⟨Chg.trans0 (Chg.g HG2.out) (Chg.one (grown_set _ _ _ _) (by simp [fp])), Nat.le_trans HG2.out.size (grown_set W a 21 (.int .i64 (pc + 1))).size⟩
  generalize W.setCell ⟨a, 21, none⟩ (.int .i64 (pc + 1)) = W3 at HB3 HM3 HG3 ⊢
  obtain ⟨b0, b1, b2, b3, b4, b5, b6, b7, _⟩ := HB3.out
  clear c21 f21 HBx HMW HG2 e1
  have hf := HGd.out.f0
  rcases hf with rfl | rfl | rfl | rfl
  · go_wp2_with (go_at_call 22; refine (reckon_any HM3.out _ _ _ _ _ _ _ _ hka hkb hkc (.inl rfl) HGd.out).mono ?_; rintro e w4 ⟨rfl, o', hm⟩; have HN := hd (from_chg HG3.out hm); clear hm)
    go_end0
    exact ⟨rfl, _, HN.out⟩
  · go_wp2_with (go_at_call 22; refine (reckon_any HM3.out _ _ _ _ _ _ _ _ hka hkb hkc (.inr rfl) HGd.out).mono ?_; rintro e w4 ⟨rfl, o', hm⟩; have HN := hd (from_chg HG3.out hm); clear hm)
    go_end0
    exact ⟨rfl, _, HN.out⟩
  · go_wp2_with (go_at_call 23; refine (access_any HM3.out _ _ _ _ _ _ _ hka hkb).mono ?_; rintro e w4 ⟨rfl, o', hm⟩; have HN := hd (from_chg HG3.out hm); clear hm)
    go_end0
    exact ⟨rfl, _, HN.out⟩
  · go_wp2_with (go_at_call 24; refine (jump_any HM3.out _ _ _ _ _ _ _ hkc HGd.out.im0.1 HGd.out.im0.2).mono ?_; rintro e w4 ⟨rfl, o', hm⟩; have HN := hd (from_chg HG3.out hm); clear hm)
    go_end0
    exact ⟨rfl, _, HN.out⟩
theorem step_any (h : Mach w a hb b o inp s) :
    Calls Tryd.prog 14 #[ptr a] w fun e w' => e = .returned unit ∧ ∃ o', Mach w' a hb b o' inp (s.step inp) ∧ Chg (fp a b o) w w' ∧ Nw w o o' := by
  unfold Ms.step
  by_cases hp : s.pc < s.xs.length
  · rw [if_pos hp]
    cases hd' : decB (at0 s.xs s.pc.toNat)
    · exact step_bad h hp hd'
    · exact step_go h hp hd'
  · rw [if_neg hp]
    exact step_out h hp
end
end Go.Proofs.YtfdofleohichiaaDoor.Cpu
