/-
  What package cpu's access, target and jump do.
-/
import Derived.Test.YtfdofleohichiaaDoorCpu3
namespace Go.Proofs.YtfdofleohichiaaDoor.Cpu
open Go.RowKit Go.Proofs.YtfdofleohichiaaDoor.Bits Go.Proofs.YtfdofleohichiaaDoor.Gw Go.Proofs.YtfdofleohichiaaDoor.Risc Go.Proofs.YtfdofleohichiaaDoor.Alu Go.Proofs.YtfdofleohichiaaDoor.Mem
set_option linter.unusedVariables false

theorem Nw.back {w W : World} {o o' : Value} (h : Nw W o o') (hs : w.heap.size ≤ W.heap.size) : Nw w o o' := fun k hk => by
  rcases h k hk with e | e
  · exact .inl e
  · exact .inr (by omega)
section
variable {w : World} {a hb b : Nat} {o : Value} {inp : ByteArray} {s : Ms}
theorem pl_eq {X im P : Int} (h : (X + im) % 4294967296 = P) : (X + im % 4294967296) % 4294967296 = P := by omega
/- From a world that has grown from w. -/
theorem from_g {W w' : World} {o' : Value} {s' : Ms} (g : G w W) (h : Mach w' a hb b o' inp s' ∧ Chg (fp a b o) W w' ∧ Nw W o o') : Mach w' a hb b o' inp s' ∧ Chg (fp a b o) w w' ∧ Nw w o o' :=
  ⟨h.1, Chg.trans0 (Chg.g g) h.2.1, h.2.2.back g.size⟩
set_option maxHeartbeats 1000000 in
set_option maxRecDepth 100000 in
theorem access_store (h : Mach w a hb b o inp s) (v : Bool) (ka kb : Nat) (x op im : Int) (hka : ka < 16) (hkb : kb < 16) :
    Calls Tryd.prog 23 #[ptr a, ins 2 true v ka kb x op im] w fun e w' => e = .returned unit ∧ ∃ o', Mach w' a hb b o' inp (s.access inp true v ka kb im) ∧ Chg (fp a b o) w w' ∧ Nw w o o' := by
  have HM := hd h
  have hlt := h.lt
  have c1 := h.reg hkb
  have c2 := h.reg hka
  obtain ⟨X, hX⟩ : ∃ X, at0 s.R kb = X := ⟨_, rfl⟩
  obtain ⟨Y, hY⟩ : ∃ Y, at0 s.R ka = Y := ⟨_, rfl⟩
  obtain ⟨P, hP⟩ : ∃ P, (X + im) % 4294967296 = P := ⟨_, rfl⟩
  have HS : Hid (s.access inp true v ka kb im = s.store P Y v) := hd (by simp [Ms.access, plI, hX, hY, hP])
  have HP : Hid (W32 P) := hd (by rw [← hP]; exact W32.mod _)
  have HY : Hid (W32 Y) := hd (by rw [← hY]; exact h.ok.reg ka)
  have hP' := pl_eq hP
  rw [hX] at c1
  rw [hY] at c2
  rw [HS.out]
  clear h hX hY hP
  go_enter Tryd.func23, Tryd.ntmps23
  go_wp2
  go_quiet ((go_at_call 36; exact Calls.quiet_of_same (word_any _ _)))
  go_wp2
  have g1 : G w ((w.alloc (Obj.cells #[Value.int IntKind.i64 2, Value.bool true, Value.bool v, Value.int IntKind.i64 ↑ka, Value.int IntKind.i64 ↑kb, Value.int IntKind.i64 x, Value.int IntKind.i64 op, Value.int IntKind.i64 im] 39)).drewN nq) := ((G.refl w).alloc _ _).drewN _
  have b2 : ((w.alloc (Obj.cells #[Value.int IntKind.i64 2, Value.bool true, Value.bool v, Value.int IntKind.i64 ↑ka, Value.int IntKind.i64 ↑kb, Value.int IntKind.i64 x, Value.int IntKind.i64 op, Value.int IntKind.i64 im] 39)).drewN nq).cell? ⟨w.heap.size, 2, none⟩ = some (.bool v) := by simp
  have b3 : ((w.alloc (Obj.cells #[Value.int IntKind.i64 2, Value.bool true, Value.bool v, Value.int IntKind.i64 ↑ka, Value.int IntKind.i64 ↑kb, Value.int IntKind.i64 x, Value.int IntKind.i64 op, Value.int IntKind.i64 im] 39)).drewN nq).cell? ⟨w.heap.size, 3, none⟩ = some (.int .i64 ka) := by simp
  replace c2 := (g1.cell (a := ⟨a, ka, none⟩) hlt).trans c2
  generalize (w.alloc (Obj.cells #[Value.int IntKind.i64 2, Value.bool true, Value.bool v, Value.int IntKind.i64 ↑ka, Value.int IntKind.i64 ↑kb, Value.int IntKind.i64 x, Value.int IntKind.i64 op, Value.int IntKind.i64 im] 39)).drewN nq = W at g1 b2 b3 c2 ⊢
  have HG := hd g1
  clear g1
  have ia0 : (0 : Int) ≤ (ka : Int) := by omega
  have ia1 : (ka : Int) < 16 := by omega
  refine region_tail 11 (by kernel_rfl) (by kernel_rfl) ?_
  simp only [List.take_succ_cons, List.take_zero, List.drop_succ_cons, List.drop_zero]
  repeat (first | still_step)
  refine wpStill_nil ?_
  go_wp2_with (go_at_call 40; refine (cstore_any (HM.out.g HG.out.drew) _ _ HP.out HY.out v).mono ?_; rintro e w' ⟨rfl, o', hm⟩; have HN := hd (from_g HG.out.drew hm); clear hm)
  refine bodyPost_ret (results_none rfl _ _ _) rfl ?_
  exact ⟨rfl, _, HN.out⟩

theorem ldR_of_no {p : Int} {v : Bool} (h : ldB s p v = false) : ldR inp s p = s.rd := by
  unfold ldR
  by_cases e : p = 4294967240
  · simp [ldB, e] at h
  · rw [if_neg (fun k => e k.1)]
set_option maxHeartbeats 1000000 in
set_option maxRecDepth 100000 in
theorem access_load (h : Mach w a hb b o inp s) (v : Bool) (ka kb : Nat) (x op im : Int) (hka : ka < 16) (hkb : kb < 16) :
    Calls Tryd.prog 23 #[ptr a, ins 2 false v ka kb x op im] w fun e w' => e = .returned unit ∧ Mach w' a hb b o inp (s.access inp false v ka kb im) ∧ w.grownBy w' (some a) := by
  have HM := hd h
  have hlt := h.lt
  have c1 := h.reg hkb
  obtain ⟨X, hX⟩ : ∃ X, at0 s.R kb = X := ⟨_, rfl⟩
  obtain ⟨P, hP⟩ : ∃ P, (X + im) % 4294967296 = P := ⟨_, rfl⟩
  have HS : Hid (s.access inp false v ka kb im = s.load inp ka P v) := hd (by simp [Ms.access, plI, hX, hP])
  have HP : Hid (W32 P) := hd (by rw [← hP]; exact W32.mod _)
  have hP' := pl_eq hP
  obtain ⟨V, hV⟩ : ∃ V, ldV inp s P v = V := ⟨_, rfl⟩
  have HV := hd hV
  have HW : Hid (W32 V) := hd (by rw [← hV]; exact ldV_bd h.ok P v)
  rw [hX] at c1
  rw [HS.out]
  clear h hX hP hV
  cases hB : ldB s P v
  all_goals
    have HB := hd hB
    have HL : Hid (s.load inp ka P v = _) := hd (by unfold Ms.load; rw [hB, HV.out])
    rw [HL.out]
    clear hB
    go_enter Tryd.func23, Tryd.ntmps23
    go_wp2
    go_quiet ((go_at_call 36; exact Calls.quiet_of_same (word_any _ _)))
    go_upto_region 4 with fail
    have g1 : G w ((w.alloc (Obj.cells #[Value.int IntKind.i64 2, Value.bool false, Value.bool v, Value.int IntKind.i64 ↑ka, Value.int IntKind.i64 ↑kb, Value.int IntKind.i64 x, Value.int IntKind.i64 op, Value.int IntKind.i64 im] 39)).drewN nq) := ((G.refl w).alloc _ _).drewN _
    have b2 : ((w.alloc (Obj.cells #[Value.int IntKind.i64 2, Value.bool false, Value.bool v, Value.int IntKind.i64 ↑ka, Value.int IntKind.i64 ↑kb, Value.int IntKind.i64 x, Value.int IntKind.i64 op, Value.int IntKind.i64 im] 39)).drewN nq).cell? ⟨w.heap.size, 2, none⟩ = some (.bool v) := by simp
    have b3 : ((w.alloc (Obj.cells #[Value.int IntKind.i64 2, Value.bool false, Value.bool v, Value.int IntKind.i64 ↑ka, Value.int IntKind.i64 ↑kb, Value.int IntKind.i64 x, Value.int IntKind.i64 op, Value.int IntKind.i64 im] 39)).drewN nq).cell? ⟨w.heap.size, 3, none⟩ = some (.int .i64 ka) := by simp
    generalize (w.alloc (Obj.cells #[Value.int IntKind.i64 2, Value.bool false, Value.bool v, Value.int IntKind.i64 ↑ka, Value.int IntKind.i64 ↑kb, Value.int IntKind.i64 x, Value.int IntKind.i64 op, Value.int IntKind.i64 im] 39)).drewN nq = W at g1 b2 b3 ⊢
    have HG := hd g1
    have nx : some w.heap.size ≠ some a := by simp; omega
    clear g1
  · go_wp2_with (go_at_call 41; refine (cload_any (HM.out.g HG.out) _ HP.out v).mono ?_; rw [HV.out, HB.out]; rintro e w' ⟨rfl, hm, hg⟩; have c4 := hm.cen; have f4 := hm.free 26; have HX := hd (hm.en1 (e := 5) (by decide)); have HH := hd hg; clear hm hg)
    refine bodyPost_ret (results_none rfl _ _ _) rfl ?_
    exact ⟨rfl, HX.out.same (by rw [ldR_of_no HB.out]), grown_trans (grown_trans (grown_g HG.out _) HH.out) (grown_set _ _ _ _)⟩
  · go_wp2_with (first
      | (go_at_call 41; refine (cload_any (HM.out.g HG.out) _ HP.out v).mono ?_; rw [HV.out, HB.out]; rintro e w' ⟨rfl, hm, hg⟩; replace b3 := hg.cell b3 nx; have HX := hd hm; have HH := hd hg; clear hm hg)
      | (go_at_call 34; refine (setBy_any HX.out _ hka _ HW.out).mono ?_; rintro e w2 ⟨rfl, hm, hg⟩; have HX2 := hd hm; have HH2 := hd hg; clear hm hg))
    go_end0
    exact ⟨rfl, HX2.out, grown_trans (grown_trans (grown_g HG.out _) HH.out) HH2.out⟩
theorem access_any (h : Mach w a hb b o inp s) (u v : Bool) (ka kb : Nat) (x op im : Int) (hka : ka < 16) (hkb : kb < 16) :
    Calls Tryd.prog 23 #[ptr a, ins 2 u v ka kb x op im] w fun e w' => e = .returned unit ∧ ∃ o', Mach w' a hb b o' inp (s.access inp u v ka kb im) ∧ Chg (fp a b o) w w' ∧ Nw w o o' := by
  cases u
  · exact (access_load h v ka kb x op im hka hkb).mono fun e w' ⟨he, hm, hg⟩ => ⟨he, o, hm, Chg.one hg (by simp [fp]), Nw.refl _ _⟩
  · exact access_store h v ka kb x op im hka hkb
theorem get30 (n : Int) : getI (n % 4294967296) 0 30 = n % 1073741824 := by
  have h0 : 0 ≤ n % 4294967296 := by omega
  have := get_nat (n % 4294967296) 0 30 h0 (by decide) (by decide)
  simp at this
  exact this
theorem target_u (h : Mach w a hb b o inp s) (v : Bool) (x y z op im : Int) (i0 : -8388608 ≤ im) (i1 : im ≤ 8388607) :
    Calls Tryd.prog 43 #[ptr a, ins 3 true v x y z op im] w fun e w' => e = .returned (.int .i64 ((s.pc + im) % 1073741824)) ∧ ∃ p : By, w' = gr w p := by
  have hlt := h.lt
  have c1 := h.cpc
  have p0 := h.ok.pc0
  have p1 := h.ok.pc1
  have HG : Hid (getI ((s.pc + im) % 4294967296) 0 30 = (s.pc + im) % 1073741824) := hd (get30 _)
  have HR := hd (W32.mod (s.pc + im))
  have q0 : 0 ≤ (s.pc + im) % 1073741824 := by omega
  have q1 : (s.pc + im) % 1073741824 < 1073741824 := by omega
  obtain ⟨pc, hpc⟩ : ∃ pc, s.pc = pc := ⟨_, rfl⟩
  rw [hpc] at c1 p0 p1 HG HR q0 q1 ⊢
  clear h hpc
  obtain ⟨T, hT⟩ : ∃ T, (pc + im) % 1073741824 = T := ⟨_, rfl⟩
  rw [hT] at HG q0 q1 ⊢
  clear hT
  go_enter Tryd.func43, Tryd.ntmps43
  go_wp2
  go_quiet (first
    | (go_at_call 36; exact Calls.quiet_of_same (word_any _ _))
    | (go_at_call 44; have hget := get_any ((pc + im) % 4294967296) 0 30; rw [HG.out] at hget; exact Calls.quiet_of_same (hget _ HR.out.1 HR.out.2 (by decide))))
  go_wp2
  go_ret
  exact ⟨rfl, ((G.refl _).alloc _ _).drewN _⟩
theorem target_r (h : Mach w a hb b o inp s) (v : Bool) (x y : Int) (kc : Nat) (op im : Int) (hc : kc < 16) :
    Calls Tryd.prog 43 #[ptr a, ins 3 false v x y kc op im] w fun e w' => e = .returned (.int .i64 (at0 s.R kc / 4)) ∧ ∃ p : By, w' = gr w p := by
  have hlt := h.lt
  have c1 := h.reg hc
  have hr := h.ok.reg kc
  obtain ⟨X, hX⟩ : ∃ X, at0 s.R kc = X := ⟨_, rfl⟩
  rw [hX] at c1 hr ⊢
  obtain ⟨r0, r1⟩ := hr
  clear h hX
  go_enter Tryd.func43, Tryd.ntmps43
  go_wp2
  go_quiet (fail)
  go_wp2
  go_ret
  exact ⟨rfl, ((G.refl _).alloc _ _).drewN _⟩
theorem target_any (h : Mach w a hb b o inp s) (u v : Bool) (x y : Int) (kc : Nat) (op im : Int) (hc : kc < 16) (i0 : -8388608 ≤ im) (i1 : im ≤ 8388607) :
    Calls Tryd.prog 43 #[ptr a, ins 3 u v x y kc op im] w fun e w' => e = .returned (.int .i64 (s.target u kc im)) ∧ ∃ p : By, w' = gr w p := by
  cases u
  · exact target_r h v x y kc op im hc
  · exact target_u h v x y kc op im i0 i1
end
end Go.Proofs.YtfdofleohichiaaDoor.Cpu
