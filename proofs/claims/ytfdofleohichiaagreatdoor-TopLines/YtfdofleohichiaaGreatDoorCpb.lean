/-
  What package cpu's jump does.
  What package cpu's reckon does.
  What package cpu's reckon does, of what alu reckons.
  What a step of package cpu does.
  What package cpu's Run does.
-/
import Derived.Test.YtfdofleohichiaaGreatDoorCpa
import Derived.Deep.Cut
import Derived.Laws.IdiomStrings
namespace Go.Proofs.YtfdofleohichiaaGreatDoor.Cpu
open Go.RowKit Go.Proofs.YtfdofleohichiaaGreatDoor.Bits Go.Proofs.YtfdofleohichiaaGreatDoor.Gw Go.Proofs.YtfdofleohichiaaGreatDoor.Risc Go.Proofs.YtfdofleohichiaaGreatDoor.Alu Go.Proofs.YtfdofleohichiaaGreatDoor.Mem
set_option linter.unusedVariables false

/- An instruction lies in a block of its own. -/
structure Bx (W : World) (X : Nat) (f : Int) (u v : Bool) (a b c op im : Int) : Prop where
  b0 : W.cell? ⟨X, 0, none⟩ = some (.int .i64 f)
  b1 : W.cell? ⟨X, 1, none⟩ = some (.bool u)
  b2 : W.cell? ⟨X, 2, none⟩ = some (.bool v)
  b3 : W.cell? ⟨X, 3, none⟩ = some (.int .i64 a)
  b4 : W.cell? ⟨X, 4, none⟩ = some (.int .i64 b)
  b5 : W.cell? ⟨X, 5, none⟩ = some (.int .i64 c)
  b6 : W.cell? ⟨X, 6, none⟩ = some (.int .i64 op)
  b7 : W.cell? ⟨X, 7, none⟩ = some (.int .i64 im)
  lt : X < W.heap.size
section
variable {W W' : World} {X : Nat} {f : Int} {u v : Bool} {a b c op im : Int}
theorem bx_new (w : World) (f : Int) (u v : Bool) (a b c op im : Int) : Bx (w.alloc (.cells #[.int .i64 f, .bool u, .bool v, .int .i64 a, .int .i64 b, .int .i64 c, .int .i64 op, .int .i64 im] 72)) w.heap.size f u v a b c op im :=
  ⟨by simp, by simp, by simp, by simp, by simp, by simp, by simp, by simp, by simp⟩
theorem Bx.by (h : Bx W X f u v a b c op im) {r : Option Nat} (g : W.grownBy W' r) (hr : r ≠ some X) : Bx W' X f u v a b c op im :=
  ⟨g.cell h.b0 (fun e => hr e.symm), g.cell h.b1 (fun e => hr e.symm), g.cell h.b2 (fun e => hr e.symm), g.cell h.b3 (fun e => hr e.symm), g.cell h.b4 (fun e => hr e.symm), g.cell h.b5 (fun e => hr e.symm), g.cell h.b6 (fun e => hr e.symm), g.cell h.b7 (fun e => hr e.symm), Nat.lt_of_lt_of_le h.lt g.size⟩
theorem Bx.g (h : Bx W X f u v a b c op im) (g : G W W') : Bx W' X f u v a b c op im := h.by (grown_g g none) (by simp)
end
section
variable {w : World} {a hb b : Nat} {o : Value} {inp : ByteArray} {s : Ms}
theorem Mach.regset (h : Mach w a hb b o inp s) {k : Nat} (hk : k < 16) {r : Int} (hr : W32 r) : Mach (w.setCell ⟨a, k, none⟩ (wd r)) a hb b o inp { s with R := s.R.set k r } := by
  refine h.wrote (grown_set _ _ _ _) ?_ rfl rfl ⟨by simp [h.ok.r16], inR_set h.ok.rr _ hr.1 hr.2, h.ok.h0, h.ok.pc0, h.ok.pc1, h.ok.xs1, h.ok.xr, h.ok.rd1, h.ok.in1, h.ok.out1, h.ok.outr, h.ok.en0, h.ok.tr0⟩
  rw [blk_set h.blk k (wd r), ms_reg _ _ _ _ h.ok.r16 hk]
theorem from_set {W w' : World} {o : Value} {s' : Ms} (g : G w W) (k : W.grownBy w' (some a)) (h : Mach w' a hb b o inp s') : ∃ o', Mach w' a hb b o' inp s' ∧ Chg (fp a b o) w w' ∧ Nw w o o' :=
  ⟨o, h, Chg.trans0 (Chg.g g) (Chg.one k (by simp [fp])), Nw.refl _ _⟩
set_option maxHeartbeats 1000000 in
set_option maxRecDepth 100000 in
theorem jump_no (h : Mach w a hb b o inp s) (u v : Bool) (ka : Nat) (y : Int) (kc : Nat) (op im : Int) (hh : holdsB ka s.n s.z s.c s.v = false) :
    Calls Tryz.prog 48 #[ptr a, ins 3 u v ka y kc op im] w fun e w' => e = .returned unit ∧ Mach w' a hb b o inp s ∧ G w w' := by
  have HM := hd h
  have HH := hd hh
  clear h hh
  (go_enter Tryz.func48, Tryz.ntmps48; go_upto_region 1 with fail; have HBx := hd (bx_new w 3 u v ka y kc op im); have HG := hd ((G.refl w).alloc #[Value.int IntKind.i64 3, Value.bool u, Value.bool v, Value.int IntKind.i64 ↑ka, Value.int IntKind.i64 y, Value.int IntKind.i64 ↑kc, Value.int IntKind.i64 op, Value.int IntKind.i64 im] 72); have nx : ¬ w.heap.size = a := (by have := HM.out.lt; omega); generalize (w.alloc (Obj.cells #[Value.int IntKind.i64 3, Value.bool u, Value.bool v, Value.int IntKind.i64 ↑ka, Value.int IntKind.i64 y, Value.int IntKind.i64 ↑kc, Value.int IntKind.i64 op, Value.int IntKind.i64 im] 72)) = W at HBx HG ⊢; generalize w.heap.size = X at HBx nx ⊢; have HMW := hd (HM.out.g HG.out); have b3 := HBx.out.b3; have c17 := HMW.out.cn; have c18 := HMW.out.cz; have c19 := HMW.out.cc; have c20 := HMW.out.cv; refine region_tail 6 (by kernel_rfl) (by kernel_rfl) ?_; simp only [List.take_succ_cons, List.take_zero, List.drop_succ_cons, List.drop_zero]; (repeat (first | still_step)); refine wpStill_nil ?_)
  go_wp2_with (go_at_call 84; refine (holds_any _ _ _ _ _ _ (by omega)).mono ?_; rw [HH.out]; rintro e w2 ⟨rfl, hg⟩; have HG2 := hd (G.trans (G.drew HG.out) hg); have HM2 := hd (HM.out.g HG2.out); have HB2 := hd (HBx.out.g (G.trans (G.drew (G.refl _)) hg)); have b8 := HB2.out; have d21 := HM2.out.cpc; obtain ⟨d0, d1, d2, d3, d4, d5, d6, d7, _⟩ := HB2.out; clear hg b8)
  refine bodyPost_ret (results_none rfl _ _ _) rfl ?_
  exact ⟨rfl, HM2.out, HG2.out⟩
set_option maxHeartbeats 1000000 in
set_option maxRecDepth 100000 in
theorem jump_yes (h : Mach w a hb b o inp s) (u v : Bool) (ka : Nat) (y : Int) (kc : Nat) (op im : Int) (hkc : kc < 16) (i0 : -8388608 ≤ im) (i1 : im ≤ 8388607) (hh : holdsB ka s.n s.z s.c s.v = true) :
    Calls Tryz.prog 48 #[ptr a, ins 3 u v ka y kc op im] w fun e w' => e = .returned unit ∧ ∃ o', Mach w' a hb b o' inp { s with pc := s.target u kc im, R := if v = true then s.R.set 15 (s.pc * 4 % 4294967296) else s.R } ∧ Chg (fp a b o) w w' ∧ Nw w o o' := by
  have HM := hd h
  have HH := hd hh
  obtain ⟨T, hT⟩ : ∃ T, s.target u kc im = T := ⟨_, rfl⟩
  have HT := hd hT
  have HTB : Hid (0 ≤ T ∧ T < 1073741824) := hd (by rw [← hT]; exact target_bd h.ok u kc im)
  have p0 := h.ok.pc0
  have p1 := h.ok.pc1
  rw [hT]
  clear h hh hT
  cases v
  · (go_enter Tryz.func48, Tryz.ntmps48; go_upto_region 1 with fail; have HBx := hd (bx_new w 3 u false ka y kc op im); have HG := hd ((G.refl w).alloc #[Value.int IntKind.i64 3, Value.bool u, Value.bool false, Value.int IntKind.i64 ↑ka, Value.int IntKind.i64 y, Value.int IntKind.i64 ↑kc, Value.int IntKind.i64 op, Value.int IntKind.i64 im] 72); have nx : ¬ w.heap.size = a := (by have := HM.out.lt; omega); generalize (w.alloc (Obj.cells #[Value.int IntKind.i64 3, Value.bool u, Value.bool false, Value.int IntKind.i64 ↑ka, Value.int IntKind.i64 y, Value.int IntKind.i64 ↑kc, Value.int IntKind.i64 op, Value.int IntKind.i64 im] 72)) = W at HBx HG ⊢; generalize w.heap.size = X at HBx nx ⊢; have HMW := hd (HM.out.g HG.out); have b3 := HBx.out.b3; have c17 := HMW.out.cn; have c18 := HMW.out.cz; have c19 := HMW.out.cc; have c20 := HMW.out.cv; refine region_tail 6 (by kernel_rfl) (by kernel_rfl) ?_; simp only [List.take_succ_cons, List.take_zero, List.drop_succ_cons, List.drop_zero]; (repeat (first | still_step)); refine wpStill_nil ?_)
    go_wp2_with (first | (go_at_call 84; refine (holds_any _ _ _ _ _ _ (by omega)).mono ?_; rw [HH.out]; rintro e w2 ⟨rfl, hg⟩; have HG2 := hd (G.trans (G.drew HG.out) hg); have HM2 := hd (HM.out.g HG2.out); have HB2 := hd (HBx.out.g (G.trans (G.drew (G.refl _)) hg)); have b8 := HB2.out; have d21 := HM2.out.cpc; obtain ⟨d0, d1, d2, d3, d4, d5, d6, d7, _⟩ := HB2.out; clear hg b8) | (go_at_call 85; refine (target_any HM2.out _ _ _ _ _ _ _ hkc i0 i1).mono ?_; rw [HT.out]; rintro e w3 ⟨rfl, hg⟩; have HG3 := hd (G.trans HG2.out hg); have HM3 := hd (HM.out.g HG3.out); have b2 := (HB2.out.g hg).b2; have c21 := HM3.out.cpc; have f21 := HM3.out.free 21; have c15 := HM3.out.reg (show 15 < 16 by decide); have f15 := HM3.out.free 15; clear hg))
    go_end0
    refine ⟨rfl, from_set HG3.out (grown_set _ _ _ _) ?_⟩
    exact HM3.out.pc1 HTB.out.1 HTB.out.2
  · (go_enter Tryz.func48, Tryz.ntmps48; go_upto_region 1 with fail; have HBx := hd (bx_new w 3 u true ka y kc op im); have HG := hd ((G.refl w).alloc #[Value.int IntKind.i64 3, Value.bool u, Value.bool true, Value.int IntKind.i64 ↑ka, Value.int IntKind.i64 y, Value.int IntKind.i64 ↑kc, Value.int IntKind.i64 op, Value.int IntKind.i64 im] 72); have nx : ¬ w.heap.size = a := (by have := HM.out.lt; omega); generalize (w.alloc (Obj.cells #[Value.int IntKind.i64 3, Value.bool u, Value.bool true, Value.int IntKind.i64 ↑ka, Value.int IntKind.i64 y, Value.int IntKind.i64 ↑kc, Value.int IntKind.i64 op, Value.int IntKind.i64 im] 72)) = W at HBx HG ⊢; generalize w.heap.size = X at HBx nx ⊢; have HMW := hd (HM.out.g HG.out); have b3 := HBx.out.b3; have c17 := HMW.out.cn; have c18 := HMW.out.cz; have c19 := HMW.out.cc; have c20 := HMW.out.cv; refine region_tail 6 (by kernel_rfl) (by kernel_rfl) ?_; simp only [List.take_succ_cons, List.take_zero, List.drop_succ_cons, List.drop_zero]; (repeat (first | still_step)); refine wpStill_nil ?_)
    go_wp2_with (first | (go_at_call 84; refine (holds_any _ _ _ _ _ _ (by omega)).mono ?_; rw [HH.out]; rintro e w2 ⟨rfl, hg⟩; have HG2 := hd (G.trans (G.drew HG.out) hg); have HM2 := hd (HM.out.g HG2.out); have HB2 := hd (HBx.out.g (G.trans (G.drew (G.refl _)) hg)); have b8 := HB2.out; have d21 := HM2.out.cpc; obtain ⟨d0, d1, d2, d3, d4, d5, d6, d7, _⟩ := HB2.out; clear hg b8) | (go_at_call 85; refine (target_any HM2.out _ _ _ _ _ _ _ hkc i0 i1).mono ?_; rw [HT.out]; rintro e w3 ⟨rfl, hg⟩; have HG3 := hd (G.trans HG2.out hg); have HM3 := hd (HM.out.g HG3.out); have b2 := (HB2.out.g hg).b2; have c21 := HM3.out.cpc; have f21 := HM3.out.free 21; have c15 := HM3.out.reg (show 15 < 16 by decide); have f15 := HM3.out.free 15; clear hg))
    refine region_tail 7 (by kernel_rfl) (by kernel_rfl) ?_
    simp only [List.take_succ_cons, List.take_zero, List.drop_succ_cons, List.drop_zero]
    repeat (first | still_step | still_call (word_any _ _))
    refine wpStill_nil ?_
    go_wp2
    go_end0
    refine ⟨rfl, from_set HG3.out (grown_trans (grown_set _ _ _ _) (grown_trans (grown_drew (World.grownBy.refl _ _)) (grown_set _ _ _ _))) ?_⟩
    exact ((HM3.out.pc1 HTB.out.1 HTB.out.2).g ((G.refl _).drew)).regset (by decide) (W32.mod _)
end
end Go.Proofs.YtfdofleohichiaaGreatDoor.Cpu
namespace Go.Proofs.YtfdofleohichiaaGreatDoor.Cpu
open Go.RowKit Go.Proofs.YtfdofleohichiaaGreatDoor.Bits Go.Proofs.YtfdofleohichiaaGreatDoor.Gw Go.Proofs.YtfdofleohichiaaGreatDoor.Risc Go.Proofs.YtfdofleohichiaaGreatDoor.Alu Go.Proofs.YtfdofleohichiaaGreatDoor.Mem
set_option linter.unusedVariables false

section
variable {w : World} {a hb b : Nat} {o : Value} {inp : ByteArray} {s : Ms}
theorem lsl16 (im : Int) (h0 : 0 ≤ im) (h1 : im ≤ 65535) : lslI im 16 = im * 65536 := by
  obtain ⟨n, rfl⟩ := Int.eq_ofNat_of_zero_le h0
  have e : (n * 2 ^ 16 : Nat) = n * 65536 := rfl
  show ((n * 2 ^ 16 % 4294967296 : Nat) : Int) = _
  rw [e]; omega
set_option maxHeartbeats 1000000 in
set_option maxRecDepth 100000 in
theorem reckon_a (h : Mach w a hb b o inp s) (u v : Bool) (ka kb kc : Nat) (op im : Int) (hka : ka < 16) (h0 : 0 ≤ im) (h1 : im ≤ 65535) (ho : op = 0) (hu : u = true) :
    Calls Tryz.prog 46 #[ptr a, ins 1 u v ka kb kc op im] w fun e w' => e = .returned unit ∧ Mach w' a hb b o inp (s.setBy ka (im * 65536)) ∧ w.grownBy w' (some a) := by
  have HM := hd h
  have e1 : im % 4294967296 = im := by omega
  have HL := hd (lsl16 im h0 h1)
  have HW : Hid (W32 (im * 65536)) := hd ⟨by omega, by omega⟩
  have cl : ∀ W, Calls Tryz.prog 77 #[.int .u32 im, .int .u32 16] W fun e w' => e = .returned (.int .u32 (im * 65536)) ∧ w' = W := fun W => by rw [← HL.out]; exact lsl_any im 16 W h0 (by decide) (by decide)
  have cw : ∀ W, Calls Tryz.prog 78 #[.int .i64 im] W fun e w' => e = .returned (.int .u32 im) ∧ w' = W := fun W => by have := word_any im W; rwa [e1] at this
  have ia0 : (0 : Int) ≤ (ka : Int) := by omega
  have ia1 : (ka : Int) < 16 := by omega
  have HO := hd (And.intro ho hu)
  clear h ho hu
  (go_enter Tryz.func46, Tryz.ntmps46; go_upto_region 1 with fail; have HBx := hd (bx_new w 1 u v ka kb kc op im); have HG := hd ((G.refl w).alloc #[Value.int IntKind.i64 1, Value.bool u, Value.bool v, Value.int IntKind.i64 ↑ka, Value.int IntKind.i64 ↑kb, Value.int IntKind.i64 ↑kc, Value.int IntKind.i64 op, Value.int IntKind.i64 im] 72); have nx : ¬ w.heap.size = a := (by have := HM.out.lt; omega); generalize w.alloc (Obj.cells #[Value.int IntKind.i64 1, Value.bool u, Value.bool v, Value.int IntKind.i64 ↑ka, Value.int IntKind.i64 ↑kb, Value.int IntKind.i64 ↑kc, Value.int IntKind.i64 op, Value.int IntKind.i64 im] 72) = W at HBx HG ⊢; generalize w.heap.size = X at HBx nx ⊢; have HMW := hd (HM.out.g HG.out); obtain ⟨b0, b1, b2, b3, b4, b5, b6, b7, _⟩ := HBx.out)
  obtain ⟨rfl, rfl⟩ := HO.out
  go_wp2
  refine region_tail 7 (by kernel_rfl) (by kernel_rfl) ?_
  simp only [List.take_succ_cons, List.take_zero, List.drop_succ_cons, List.drop_zero]
  repeat (first | still_step | still_call (cw _) | still_call (cl _))
  refine wpStill_nil ?_
  go_wp2_with (go_at_call 76; refine (setBy_any (HMW.out.g (G.drew (G.refl _))) _ hka _ HW.out).mono ?_; rintro e w2 ⟨rfl, hm, hg⟩; have HX2 := hd hm; have HH2 := hd hg; clear hm hg)
  refine bodyPost_ret (results_none rfl _ _ _) rfl ?_
  exact ⟨rfl, HX2.out, grown_trans (grown_g (G.drew HG.out) _) HH2.out⟩
set_option maxHeartbeats 1000000 in
set_option maxRecDepth 100000 in
theorem reckon_b (h : Mach w a hb b o inp s) (u v : Bool) (ka kb kc : Nat) (op im : Int) (hka : ka < 16) (ho : op = 0) (hu : u = true) (hv : v = true) :
    Calls Tryz.prog 46 #[ptr a, ins 0 u v ka kb kc op im] w fun e w' => e = .returned unit ∧ Mach w' a hb b o inp (s.setBy ka (flW s.n s.z s.c s.v)) ∧ w.grownBy w' (some a) := by
  have HM := hd h
  have ia0 : (0 : Int) ≤ (ka : Int) := by omega
  have ia1 : (ka : Int) < 16 := by omega
  have HO := hd (And.intro ho (And.intro hu hv))
  clear h ho hu hv
  (go_enter Tryz.func46, Tryz.ntmps46; go_upto_region 1 with fail; have HBx := hd (bx_new w 0 u v ka kb kc op im); have HG := hd ((G.refl w).alloc #[Value.int IntKind.i64 0, Value.bool u, Value.bool v, Value.int IntKind.i64 ↑ka, Value.int IntKind.i64 ↑kb, Value.int IntKind.i64 ↑kc, Value.int IntKind.i64 op, Value.int IntKind.i64 im] 72); have nx : ¬ w.heap.size = a := (by have := HM.out.lt; omega); generalize w.alloc (Obj.cells #[Value.int IntKind.i64 0, Value.bool u, Value.bool v, Value.int IntKind.i64 ↑ka, Value.int IntKind.i64 ↑kb, Value.int IntKind.i64 ↑kc, Value.int IntKind.i64 op, Value.int IntKind.i64 im] 72) = W at HBx HG ⊢; generalize w.heap.size = X at HBx nx ⊢; have HMW := hd (HM.out.g HG.out); obtain ⟨b0, b1, b2, b3, b4, b5, b6, b7, _⟩ := HBx.out)
  have c17 := HMW.out.cn
  have c18 := HMW.out.cz
  have c19 := HMW.out.cc
  have c20 := HMW.out.cv
  obtain ⟨rfl, rfl, rfl⟩ := HO.out
  go_wp2
  go_region_with (first
    | (go_at_call 79; refine (flb_any _ _ _ _ _).mono ?_; rintro e w1 ⟨rfl, hg⟩; have HG1 := hd (G.trans (G.drew HG.out) hg); have HM1 := hd (HM.out.g HG1.out); have y1 := (HBx.out.g (G.trans (G.drew (G.refl _)) hg)).b3; clear hg)
    | (go_at_call 76; refine (setBy_any HM1.out _ hka _ (flW_bd _ _ _ _)).mono ?_; rintro e w2 ⟨rfl, hm, hg⟩; have HX2 := hd hm; have HH2 := hd hg; clear hm hg))
  all_goals go_wp2
  all_goals refine bodyPost_ret (results_none rfl _ _ _) rfl ?_
  all_goals exact ⟨rfl, HX2.out, grown_trans (grown_g HG1.out _) HH2.out⟩
end
end Go.Proofs.YtfdofleohichiaaGreatDoor.Cpu
namespace Go.Proofs.YtfdofleohichiaaGreatDoor.Cpu
open Go.RowKit Go.Proofs.YtfdofleohichiaaGreatDoor.Bits Go.Proofs.YtfdofleohichiaaGreatDoor.Gw Go.Proofs.YtfdofleohichiaaGreatDoor.Risc Go.Proofs.YtfdofleohichiaaGreatDoor.Alu Go.Proofs.YtfdofleohichiaaGreatDoor.Mem
set_option linter.unusedVariables false

section
variable {w : World} {a hb b : Nat} {o : Value} {inp : ByteArray} {s : Ms}
theorem grown_set6 (w : World) (b i1 i2 i3 i4 i5 i6 : Nat) (v1 v2 v3 v4 v5 v6 : Value) :
    w.grownBy ((((((w.setCell ⟨b, i1, none⟩ v1).setCell ⟨b, i2, none⟩ v2).setCell ⟨b, i3, none⟩ v3).setCell ⟨b, i4, none⟩ v4).setCell ⟨b, i5, none⟩ v5).setCell ⟨b, i6, none⟩ v6) (some b) :=
  grown_trans (grown_set3 _ _ _ _ _ _ _ _) (grown_set3 _ _ _ _ _ _ _ _)
theorem Mach.did6 (h : Mach w a hb b o inp s) (op : Int) (u : Bool) {ka : Nat} (kb : Nat) (hk : ka < 16) {n : Int} (hn : W32 n) {r h' : Int} {n' z' c' v' : Bool}
    (e1 : rI op u (at0 s.R kb) n s.h s.c = r) (e2 : hI op u (at0 s.R kb) n s.h = h') (e3 : sgB r = n') (e4 : (r == 0) = z') (e5 : cB op u (at0 s.R kb) n s.c = c') (e6 : vB op u (at0 s.R kb) n s.c s.v = v') :
    Mach ((((((w.setCell ⟨a, ka, none⟩ (wd r)).setCell ⟨a, 16, none⟩ (wd h')).setCell ⟨a, 17, none⟩ (.bool n')).setCell ⟨a, 18, none⟩ (.bool z')).setCell ⟨a, 19, none⟩ (.bool c')).setCell ⟨a, 20, none⟩ (.bool v')) a hb b o inp (s.did op u ka kb n) := by
  subst e1 e2 e3 e4 e5 e6
  refine h.wrote (grown_set6 _ _ _ _ _ _ _ _ _ _ _ _ _ _) ?_ rfl rfl (h.ok.did op u ka kb hn)
  have l := h.ok.r16
  rw [blk_set (blk_set (blk_set (blk_set (blk_set (blk_set h.blk ka _) 16 _) 17 _) 18 _) 19 _) 20 _, ms_reg _ _ _ _ l hk, ms_h _ _ _ _ (by simp [l]), ms_n _ _ _ _ (by simp [l]), ms_z _ _ _ _ (by simp [l]), ms_c _ _ _ _ (by simp [l]), ms_v _ _ _ _ (by simp [l])]
  rfl
theorem zf_cell {V V' : World} (g : G (V.alloc (.cells #[Value.bool false, Value.bool false, Value.bool false, Value.bool false] 68)) V') (i : Nat) {x : Value} (h : (#[Value.bool false, Value.bool false, Value.bool false, Value.bool false] : Array Value)[i]? = some x) : V'.cell? ⟨V.heap.size, i, none⟩ = some x := by
  rw [g.cell (by simp)]
  exact (cell_of_row (V.alloc (.cells #[Value.bool false, Value.bool false, Value.bool false, Value.bool false] 68)) V.heap.size i _ _ (0, 0) (heap_alloc_new V _)).trans h
theorem zf_free {V V' : World} (g : G (V.alloc (.cells #[Value.bool false, Value.bool false, Value.bool false, Value.bool false] 68)) V') (i : Nat) : V'.frozen? ⟨V.heap.size, i, none⟩ = false := by
  rw [g.frozen]
  unfold World.frozen?
  rw [heap_alloc_new V (.cells #[Value.bool false, Value.bool false, Value.bool false, Value.bool false] 68)]
  simp
theorem zf_blk {V V' : World} (g : G (V.alloc (.cells #[Value.bool false, Value.bool false, Value.bool false, Value.bool false] 68)) V') : V'.heap[V.heap.size]? = some (.cells [Value.bool false, Value.bool false, Value.bool false, Value.bool false].toArray 68 (0, 0)) := by
  obtain ⟨p, rfl⟩ := g
  rw [gr_old _ p (by simp)]
  exact heap_alloc_new V _
theorem zf_set {V' : World} {q : Nat} {l0 l1 l2 l3 : Value} {t : TypeId} (h : V'.heap[q]? = some (.cells [l0, l1, l2, l3].toArray t (0, 0))) (x0 x1 x2 x3 : Value) :
    ((((V'.setCell ⟨q, 0, none⟩ x0).setCell ⟨q, 1, none⟩ x1).setCell ⟨q, 2, none⟩ x2).setCell ⟨q, 3, none⟩ x3).cell? ⟨q, 0, none⟩ = some x0 ∧
    ((((V'.setCell ⟨q, 0, none⟩ x0).setCell ⟨q, 1, none⟩ x1).setCell ⟨q, 2, none⟩ x2).setCell ⟨q, 3, none⟩ x3).cell? ⟨q, 1, none⟩ = some x1 ∧
    ((((V'.setCell ⟨q, 0, none⟩ x0).setCell ⟨q, 1, none⟩ x1).setCell ⟨q, 2, none⟩ x2).setCell ⟨q, 3, none⟩ x3).cell? ⟨q, 2, none⟩ = some x2 ∧
    ((((V'.setCell ⟨q, 0, none⟩ x0).setCell ⟨q, 1, none⟩ x1).setCell ⟨q, 2, none⟩ x2).setCell ⟨q, 3, none⟩ x3).cell? ⟨q, 3, none⟩ = some x3 := by
  have := blk_set (blk_set (blk_set (blk_set h 0 x0) 1 x1) 2 x2) 3 x3
  exact ⟨(cell_blk this 0).trans (by simp), (cell_blk this 1).trans (by simp), (cell_blk this 2).trans (by simp), (cell_blk this 3).trans (by simp)⟩
theorem cell_off (V : World) (a i : Nat) (v : Value) {b : Nat} (j : Nat) (h : ¬ b = a) : (V.setCell ⟨a, i, none⟩ v).cell? ⟨b, j, none⟩ = V.cell? ⟨b, j, none⟩ :=
  World.cell?_of_block (w := V) (Below.heap_setCell V ⟨a, i, none⟩ v b h)
theorem cell_dr (V : World) (x : Addr) : V.drew.cell? x = V.cell? x := rfl
theorem did_val {op : Int} {u : Bool} {x n h : Int} {C V : Bool} (hk : Alu.okB op u = true) : doV op u x n h C V =
    .tuple #[.int .u32 (rI op u x n h C), .int .u32 (hI op u x n h), .agg #[.bool (sgB (rI op u x n h C)), .bool (rI op u x n h C == 0), .bool (cB op u x n C), .bool (vB op u x n C V)], .bool true] := by
  unfold doV; rw [if_pos hk]; rfl
set_option maxHeartbeats 4000000 in
set_option maxRecDepth 100000 in
theorem reckon_c (h : Mach w a hb b o inp s) (f : Int) (u v : Bool) (ka kb kc : Nat) (op im : Int) (hka : ka < 16) (hkb : kb < 16) (hkc : kc < 16) (hf : f = 0 ∨ f = 1) (hi : f = 1 → 0 ≤ im ∧ im ≤ 65535) (hk : Alu.okB op u = true)
    (n1 : ¬ (op = 0 ∧ u = true ∧ f = 1)) (n2 : ¬ (op = 0 ∧ u = true ∧ v = true)) :
    Calls Tryz.prog 46 #[ptr a, ins f u v ka kb kc op im] w fun e w' => e = .returned unit ∧ Mach w' a hb b o inp (s.did op u ka kb (s.opd f v kc im)) ∧ w.grownBy w' (some a) := by
  have HM := hd h
  have ia0 : (0 : Int) ≤ (ka : Int) := by omega
  have ia1 : (ka : Int) < 16 := by omega
  have ib0 : (0 : Int) ≤ (kb : Int) := by omega
  have ib1 : (kb : Int) < 16 := by omega
  obtain ⟨N, hN⟩ : ∃ N, s.opd f v kc im = N := ⟨_, rfl⟩
  have HN := hd hN
  have HNW : Hid (W32 N) := hd (by rw [← hN]; exact h.ok.opd hf hi)
  obtain ⟨A, hA⟩ : ∃ A, at0 s.R kb = A := ⟨_, rfl⟩
  have HA := hd hA
  have HAW : Hid (W32 A) := hd (by rw [← hA]; exact h.ok.reg kb)
  obtain ⟨r, hr⟩ : ∃ r, rI op u A N s.h s.c = r := ⟨_, rfl⟩
  obtain ⟨h', hh'⟩ : ∃ h', hI op u A N s.h = h' := ⟨_, rfl⟩
  obtain ⟨n', hn'⟩ : ∃ n', sgB r = n' := ⟨_, rfl⟩
  obtain ⟨z', hz'⟩ : ∃ z', (r == 0) = z' := ⟨_, rfl⟩
  obtain ⟨c', hc'⟩ : ∃ c', cB op u A N s.c = c' := ⟨_, rfl⟩
  obtain ⟨v', hv'⟩ : ∃ v', vB op u A N s.c s.v = v' := ⟨_, rfl⟩
  have HV : Hid (doV op u A N s.h s.c s.v = .tuple #[.int .u32 r, .int .u32 h', .agg #[.bool n', .bool z', .bool c', .bool v'], .bool true]) := hd (by rw [did_val hk, hr, hn', hz', hh', hc', hv'])
  have HE := hd (And.intro hr (And.intro hh' (And.intro hn' (And.intro hz' (And.intro hc' hv')))))
  rw [hN]
  have HF := hd (And.intro hf hi)
  have H1 := hd n1
  have H2 := hd n2
  clear h hN hA hr hh' hn' hz' hc' hv' hf hi n1 n2
  (go_enter Tryz.func46, Tryz.ntmps46; go_upto_region 1 with fail; have HBx := hd (bx_new w f u v ka kb kc op im); have HG := hd ((G.refl w).alloc #[Value.int IntKind.i64 f, Value.bool u, Value.bool v, Value.int IntKind.i64 ↑ka, Value.int IntKind.i64 ↑kb, Value.int IntKind.i64 ↑kc, Value.int IntKind.i64 op, Value.int IntKind.i64 im] 72); have nx : ¬ w.heap.size = a := (by have := HM.out.lt; omega); generalize w.alloc (Obj.cells #[Value.int IntKind.i64 f, Value.bool u, Value.bool v, Value.int IntKind.i64 ↑ka, Value.int IntKind.i64 ↑kb, Value.int IntKind.i64 ↑kc, Value.int IntKind.i64 op, Value.int IntKind.i64 im] 72) = W at HBx HG ⊢; generalize w.heap.size = X at HBx nx ⊢; have HMW := hd (HM.out.g HG.out); obtain ⟨b0, b1, b2, b3, b4, b5, b6, b7, _⟩ := HBx.out)
  go_cut [19] from 8 (fun s19 wc => W = wc ∧ s19 = .bool false)
  case first =>
    cases e1 : (op == 0)
    · go_wp2
      go_meet
      case rel => exact ⟨rfl, rfl⟩
    · cases u
      · go_wp2
        go_meet
        case rel => exact ⟨rfl, rfl⟩
      · have e2 : (f == 1) = false := by simpa using fun e => H1.out ⟨by simpa using e1, rfl, e⟩
        go_wp2
        go_meet
        case rel => exact ⟨rfl, rfl⟩
  case rest =>
  obtain ⟨rfl, rfl⟩ := hcut
  go_upto_region 3 with fail
  go_cut [38] from 8 (fun s38 wc => W = wc ∧ s38 = .bool false)
  case first =>
    cases e1 : (op == 0)
    · go_wp2
      go_meet
      case rel => exact ⟨rfl, rfl⟩
    · cases u
      · go_wp2
        go_meet
        case rel => exact ⟨rfl, rfl⟩
      · have e2 : v = false := by simpa using fun e => H2.out ⟨by simpa using e1, rfl, e⟩
        subst e2
        go_wp2
        go_meet
        case rel => exact ⟨rfl, rfl⟩
  case rest =>
  obtain ⟨rfl, rfl⟩ := hcut
  go_upto_region 5 with fail
  have K0 : ∀ V, G W V → V.cell? ⟨X, 0, none⟩ = some (.int .i64 f) := fun V g => (HBx.out.g g).b0
  have K1 : ∀ V, G W V → V.cell? ⟨X, 1, none⟩ = some (.bool u) := fun V g => (HBx.out.g g).b1
  have K2 : ∀ V, G W V → V.cell? ⟨X, 2, none⟩ = some (.bool v) := fun V g => (HBx.out.g g).b2
  have K3 : ∀ V, G W V → V.cell? ⟨X, 3, none⟩ = some (.int .i64 ka) := fun V g => (HBx.out.g g).b3
  have K4 : ∀ V, G W V → V.cell? ⟨X, 4, none⟩ = some (.int .i64 kb) := fun V g => (HBx.out.g g).b4
  have K5 : ∀ V, G W V → V.cell? ⟨X, 5, none⟩ = some (.int .i64 kc) := fun V g => (HBx.out.g g).b5
  have K6 : ∀ V, G W V → V.cell? ⟨X, 6, none⟩ = some (.int .i64 op) := fun V g => (HBx.out.g g).b6
  have K7 : ∀ V, G W V → V.cell? ⟨X, 7, none⟩ = some (.int .i64 im) := fun V g => (HBx.out.g g).b7
  have K8 : ∀ V, G W V → V.cell? ⟨a, kb, none⟩ = some (wd A) := fun V g => by rw [← HA.out]; exact (HMW.out.g g).reg hkb
  have K16 : ∀ V, G W V → V.cell? ⟨a, 16, none⟩ = some (wd s.h) := fun V g => (HMW.out.g g).ch
  have K17 : ∀ V, G W V → V.cell? ⟨a, 17, none⟩ = some (.bool s.n) := fun V g => (HMW.out.g g).cn
  have K18 : ∀ V, G W V → V.cell? ⟨a, 18, none⟩ = some (.bool s.z) := fun V g => (HMW.out.g g).cz
  have K19 : ∀ V, G W V → V.cell? ⟨a, 19, none⟩ = some (.bool s.c) := fun V g => (HMW.out.g g).cc
  have K20 : ∀ V, G W V → V.cell? ⟨a, 20, none⟩ = some (.bool s.v) := fun V g => (HMW.out.g g).cv
  have y0 : G W W := G.refl W
  have Z0 : ∀ (V : World) (p : By), (gr (V.alloc (.cells #[Value.bool false, Value.bool false, Value.bool false, Value.bool false] 68)) p).cell? ⟨V.heap.size, 0, none⟩ = some (.bool false) := fun V p => zf_cell (G.of _ p) 0 rfl
  have X0 : ∀ p : By, (gr (W.alloc (.cells #[Value.bool false, Value.bool false, Value.bool false, Value.bool false] 68)).drew p).cell? ⟨W.heap.size, 0, none⟩ = some (.bool false) := fun p => zf_cell (G.gr (G.drew (G.refl _)) p) 0 rfl
  have Z1 : ∀ (V : World) (p : By), (gr (V.alloc (.cells #[Value.bool false, Value.bool false, Value.bool false, Value.bool false] 68)) p).cell? ⟨V.heap.size, 1, none⟩ = some (.bool false) := fun V p => zf_cell (G.of _ p) 1 rfl
  have X1 : ∀ p : By, (gr (W.alloc (.cells #[Value.bool false, Value.bool false, Value.bool false, Value.bool false] 68)).drew p).cell? ⟨W.heap.size, 1, none⟩ = some (.bool false) := fun p => zf_cell (G.gr (G.drew (G.refl _)) p) 1 rfl
  have Z2 : ∀ (V : World) (p : By), (gr (V.alloc (.cells #[Value.bool false, Value.bool false, Value.bool false, Value.bool false] 68)) p).cell? ⟨V.heap.size, 2, none⟩ = some (.bool false) := fun V p => zf_cell (G.of _ p) 2 rfl
  have X2 : ∀ p : By, (gr (W.alloc (.cells #[Value.bool false, Value.bool false, Value.bool false, Value.bool false] 68)).drew p).cell? ⟨W.heap.size, 2, none⟩ = some (.bool false) := fun p => zf_cell (G.gr (G.drew (G.refl _)) p) 2 rfl
  have Z3 : ∀ (V : World) (p : By), (gr (V.alloc (.cells #[Value.bool false, Value.bool false, Value.bool false, Value.bool false] 68)) p).cell? ⟨V.heap.size, 3, none⟩ = some (.bool false) := fun V p => zf_cell (G.of _ p) 3 rfl
  have X3 : ∀ p : By, (gr (W.alloc (.cells #[Value.bool false, Value.bool false, Value.bool false, Value.bool false] 68)).drew p).cell? ⟨W.heap.size, 3, none⟩ = some (.bool false) := fun p => zf_cell (G.gr (G.drew (G.refl _)) p) 3 rfl
  have hgg := gr_gr
  have hfz := gr_frozen
  have F0 : ∀ (V : World) (i : Nat), (V.alloc (.cells #[Value.bool false, Value.bool false, Value.bool false, Value.bool false] 68)).frozen? ⟨V.heap.size, i, none⟩ = false := fun V i => zf_free (G.refl _) i
  have F1 : ∀ i : Nat, (W.alloc (.cells #[Value.bool false, Value.bool false, Value.bool false, Value.bool false] 68)).drew.frozen? ⟨W.heap.size, i, none⟩ = false := fun i => zf_free (V := W) (G.drew (G.refl _)) i
  have la : a < W.heap.size := HMW.out.lt
  have s0 : W.heap.size ≤ W.drew.heap.size := Nat.le_refl _
  have s1 : ∀ p : By, W.heap.size ≤ (gr W.drew p).heap.size := fun p => by rw [gr_size]; exact Nat.le_add_right _ _
  go_cut [4, 5, 6, 7] from 8 (fun s4 s5 s6 s7 wc => ∃ q, s4 = wd r ∧ s5 = wd h' ∧ s6 = ptr q ∧ G W wc ∧ a < q ∧ wc.cell? ⟨q, 0, none⟩ = some (.bool n') ∧ wc.cell? ⟨q, 1, none⟩ = some (.bool z') ∧ wc.cell? ⟨q, 2, none⟩ = some (.bool c') ∧ wc.cell? ⟨q, 3, none⟩ = some (.bool v'))
  case first =>
    go_region_held3 (fun V => G W V) ((with_reducible repeat' (first | exact y0 | exact s0 | exact s1 _ | exact Nat.le_refl _ | apply G.gr | apply G.drew | apply G.alloc | refine G.set ?_ ?_ _)))
      (first
      | (go_at_call 81; refine (opd_any (HMW.out.g (by (with_reducible repeat' (first | exact y0 | exact s0 | exact s1 _ | exact Nat.le_refl _ | apply G.gr | apply G.drew | apply G.alloc | refine G.set ?_ ?_ _)))) _ _ _ _ _ _ _ _ hkc HF.out.1 HF.out.2).mono ?_; rw [HN.out]; rintro e w1 ⟨rfl, p, rfl⟩)
      | (go_at_call 80; refine (do_any _ _ _ _ _ _ _ _ _ _ HAW.out.1 HAW.out.2 HNW.out.1 HNW.out.2).mono ?_; rw [HV.out]; rintro e w2 ⟨rfl, q, rfl⟩))
    all_goals (go_wp2_with fail; go_meet)
    all_goals (case rel =>
      clear K0 K1 K2 K3 K4 K5 K6 K7 K8 K16 K17 K18 K19 K20 F0 F1 hgg hfz
      refine ⟨_, rfl, rfl, rfl, ?_, ?_, ?_⟩
      · (with_reducible repeat' (first | exact y0 | exact s0 | exact s1 _ | exact Nat.le_refl _ | apply G.gr | apply G.drew | apply G.alloc | refine G.set ?_ ?_ _))
      · (first | with_reducible exact la | with_reducible exact Nat.lt_of_lt_of_le la (s1 _))
      · (first | with_reducible exact zf_set (zf_blk (G.of _ _)) _ _ _ _ | with_reducible exact zf_set (zf_blk (G.gr (G.drew (G.refl _)) _)) _ _ _ _ | exact ⟨by simp, by simp, by simp, by simp⟩))
  case rest =>
    obtain ⟨q, rfl, rfl, rfl, gc, hq, q0, q1, q2, q3⟩ := hcut
    have nq : ¬ q = a := by omega
    clear K0 K1 K2 K3 K4 K5 K6 K7 K8 K16 K17 K18 K19 K20 Z0 Z1 Z2 Z3 X0 X1 X2 X3 F0 F1 hgg hfz b0 b1 b2 b3 b4 b5 b6 b7 y0 s0 s1
    have HG2 := hd (G.trans HG.out gc)
    have HMC := hd (HM.out.g HG2.out)
    have b3 := (HBx.out.g gc).b3
    have c0 := HMC.out.reg hka
    have f0 := HMC.out.free ka
    have c16 := HMC.out.ch
    have f16 := HMC.out.free 16
    have c17 := HMC.out.cn
    have f17 := HMC.out.free 17
    have c18 := HMC.out.cz
    have f18 := HMC.out.free 18
    have c19 := HMC.out.cc
    have f19 := HMC.out.free 19
    have c20 := HMC.out.cv
    have f20 := HMC.out.free 20
    have d16 : ¬ ka = 16 := by omega
    have d17 : ¬ ka = 17 := by omega
    have d18 : ¬ ka = 18 := by omega
    have d19 : ¬ ka = 19 := by omega
    have d20 : ¬ ka = 20 := by omega
    clear gc
    go_wp2
    go_region_held3 (fun V => V.cell? ⟨X, 3, none⟩ = some (.int .i64 ka) ∧ V.cell? ⟨q, 0, none⟩ = some (.bool n') ∧ V.cell? ⟨q, 1, none⟩ = some (.bool z') ∧ V.cell? ⟨q, 2, none⟩ = some (.bool c') ∧ V.cell? ⟨q, 3, none⟩ = some (.bool v'))
      (((try simp only [cell_dr, cell_off _ _ _ _ _ nx, cell_off _ _ _ _ _ nq]); exact ⟨b3, q0, q1, q2, q3⟩)) (fail)
    go_wp2
    go_end0
    obtain ⟨hr, hh', hn', hz', hc', hv'⟩ := HE.out
    rw [← HA.out] at hr hh' hc' hv'
    exact ⟨rfl, (HMC.out.did6 op u kb hka HNW.out hr hh' hn' hz' hc' hv').g (G.drew (G.refl _)), grown_drew (grown_trans (grown_g HG2.out _) (grown_set6 _ _ _ _ _ _ _ _ _ _ _ _ _ _))⟩
end
end Go.Proofs.YtfdofleohichiaaGreatDoor.Cpu
namespace Go.Proofs.YtfdofleohichiaaGreatDoor.Cpu
open Go.RowKit Go.Proofs.YtfdofleohichiaaGreatDoor.Bits Go.Proofs.YtfdofleohichiaaGreatDoor.Gw Go.Proofs.YtfdofleohichiaaGreatDoor.Risc Go.Proofs.YtfdofleohichiaaGreatDoor.Alu Go.Proofs.YtfdofleohichiaaGreatDoor.Mem
set_option linter.unusedVariables false

section
variable {w : World} {a hb b : Nat} {o : Value} {inp : ByteArray} {s : Ms}
theorem of_set {w w' : World} {o : Value} {s' : Ms} {e : Ending} (h : e = .returned unit ∧ Mach w' a hb b o inp s' ∧ w.grownBy w' (some a)) : e = .returned unit ∧ ∃ o', Mach w' a hb b o' inp s' ∧ Chg (fp a b o) w w' ∧ Nw w o o' :=
  ⟨h.1, o, h.2.1, Chg.one h.2.2 (by simp [fp]), Nw.refl _ _⟩
theorem reckon_any (h : Mach w a hb b o inp s) (f : Int) (u v : Bool) (ka kb kc : Nat) (op im : Int) (hka : ka < 16) (hkb : kb < 16) (hkc : kc < 16) (hf : f = 0 ∨ f = 1) (hg : Gd f u v ka kb kc op im) :
    Calls Tryz.prog 46 #[ptr a, ins f u v ka kb kc op im] w fun e w' => e = .returned unit ∧ ∃ o', Mach w' a hb b o' inp (s.reckon f u v ka kb kc op im) ∧ Chg (fp a b o) w w' ∧ Nw w o o' := by
  unfold Ms.reckon
  by_cases h1 : op = 0 ∧ u = true ∧ f = 1
  · rw [if_pos h1]
    obtain ⟨ho, hu, rfl⟩ := h1
    exact (reckon_a h u v ka kb kc op im hka (hg.im1 rfl).1 (hg.im1 rfl).2 ho hu).mono fun _ _ k => of_set k
  · rw [if_neg h1]
    by_cases h2 : op = 0 ∧ u = true ∧ v = true
    · rw [if_pos h2]
      obtain ⟨ho, hu, hv⟩ := h2
      rcases hf with rfl | rfl
      · exact (reckon_b h u v ka kb kc op im hka ho hu hv).mono fun _ _ k => of_set k
      · exact absurd ⟨ho, hu, rfl⟩ h1
    · rw [if_neg h2]
      exact (reckon_c h f u v ka kb kc op im hka hkb hkc hf hg.im1 (hg.ok hf) h1 h2).mono fun _ _ k => of_set k
theorem jump_any (h : Mach w a hb b o inp s) (u v : Bool) (ka : Nat) (y : Int) (kc : Nat) (op im : Int) (hkc : kc < 16) (i0 : -8388608 ≤ im) (i1 : im ≤ 8388607) :
    Calls Tryz.prog 48 #[ptr a, ins 3 u v ka y kc op im] w fun e w' => e = .returned unit ∧ ∃ o', Mach w' a hb b o' inp (s.jump u v ka kc im) ∧ Chg (fp a b o) w w' ∧ Nw w o o' := by
  unfold Ms.jump
  cases hh : holdsB ka s.n s.z s.c s.v
  · exact (jump_no h u v ka y kc op im hh).mono fun _ _ ⟨k1, k2, k3⟩ => ⟨k1, o, k2, Chg.g k3, Nw.refl _ _⟩
  · exact jump_yes h u v ka y kc op im hkc i0 i1 hh
/- Where the word is, as a byte's place. -/
theorem at_pc {xs : List Int} {pc : Int} (h0 : 0 ≤ pc) (h1 : pc < 1073741824) : beB xs (pc * 4) = decide (pc < xs.length) ∧ (pc < xs.length → ldI xs (pc * 4) = at0 xs pc.toNat) := by
  have e1 : pc * 4 / 4 = pc := by omega
  have e2 : pc * 4 % 4 = 0 := by omega
  refine ⟨by simp [beB, e1, e2], fun h => ?_⟩
  have : beB xs (pc * 4) = true := by simp [beB, e1, e2, h]
  unfold ldI
  rw [if_pos this, e1]
theorem step_end {W w' : World} {o : Value} {s' : Ms} (g : G w W) (k : W.grownBy w' (some a)) (h : Mach w' a hb b o inp s') : ∃ o', Mach w' a hb b o' inp s' ∧ Chg (fp a b o) w w' ∧ Nw w o o' :=
  ⟨o, h, Chg.trans0 (Chg.g g) (Chg.one k (by simp [fp])), Nw.refl _ _⟩
set_option maxHeartbeats 1000000 in
set_option maxRecDepth 100000 in
theorem step_out (h : Mach w a hb b o inp s) (hp : ¬ s.pc < s.xs.length) :
    Calls Tryz.prog 24 #[ptr a] w fun e w' => e = .returned unit ∧ ∃ o', Mach w' a hb b o' inp { s with en := 5 } ∧ Chg (fp a b o) w w' ∧ Nw w o o' := by
  have HM := hd h
  have HOB := hd h.ob
  have c21 := h.cpc
  have c22 := h.cmem
  have c26 := h.cen
  have f26 := h.free 26
  have p0 := h.ok.pc0
  have p1 := h.ok.pc1
  have hb0 := (at_pc (xs := s.xs) p0 p1).1
  rw [show decide (s.pc < s.xs.length) = false by simpa using hp] at hb0
  have HB := hd hb0
  obtain ⟨V, hV⟩ : ∃ V, ldI s.xs (s.pc * 4) = V := ⟨_, rfl⟩
  have HV := hd hV
  obtain ⟨pc, hpc⟩ : ∃ pc, s.pc = pc := ⟨_, rfl⟩
  rw [hpc] at c21 p0 p1 HB HV
  have q0 : 0 ≤ pc * 4 := by omega
  have q1 : pc * 4 < 4294967296 := by omega
  have CL : ∀ W, G w W → Calls Tryz.prog 45 #[ptr hb, wd (pc * 4)] W fun e w' => e = .returned (.tuple #[wd V, .bool false]) ∧ w' = W := fun W g => by
    have := load_ob (HM.out.g g).ob (pc * 4) q0 q1
    rwa [HB.out, HV.out] at this
  have HE := hd (HM.out.en1 (e := 5) (by decide))
  clear h hp hV hpc hb0
  go_enter Tryz.func24, Tryz.ntmps24
  go_wp2
  go_quiet ((go_at_call 45; exact Calls.quiet_of_same (CL _ ((G.refl _).drewN _))))
  go_wp2
  refine bodyPost_ret (results_none rfl _ _ _) rfl ?_
  exact ⟨rfl, step_end ((G.refl _).drewN _) (grown_set _ _ _ _) ((HM.out.g ((G.refl _).drewN _)).en1 (by decide))⟩
theorem word_at (h : Mach w a hb b o inp s) (hp : s.pc < s.xs.length) : ∀ W, G w W → Calls Tryz.prog 45 #[ptr hb, wd (s.pc * 4)] W fun e w' => e = .returned (.tuple #[wd (at0 s.xs s.pc.toNat), .bool true]) ∧ w' = W := fun W g => by
  have p0 := h.ok.pc0
  have p1 := h.ok.pc1
  have := load_ob (h.g g).ob (s.pc * 4) (by omega) (by omega)
  rw [(at_pc (xs := s.xs) p0 p1).1, (at_pc (xs := s.xs) p0 p1).2 hp, decide_eq_true hp] at this
  exact this
set_option maxHeartbeats 1000000 in
set_option maxRecDepth 100000 in
theorem step_bad (h : Mach w a hb b o inp s) (hp : s.pc < s.xs.length) (hd' : decB (at0 s.xs s.pc.toNat) = false) :
    Calls Tryz.prog 24 #[ptr a] w fun e w' => e = .returned unit ∧ ∃ o', Mach w' a hb b o' inp { s with en := 4 } ∧ Chg (fp a b o) w w' ∧ Nw w o o' := by
  (have HM := hd h; have c21 := h.cpc; have c22 := h.cmem; have c26 := h.cen; have f26 := h.free 26; have f21 := h.free 21; have p0 := h.ok.pc0; have p1 := h.ok.pc1; have px := h.ok.xs1)
  have CL := word_at h hp
  have HR : Hid (W32 (at0 s.xs s.pc.toNat)) := hd (rng_at h.ok.xr _)
  obtain ⟨V, hV⟩ : ∃ V, at0 s.xs s.pc.toNat = V := ⟨_, rfl⟩
  rw [hV] at hd' CL HR
  have HD := hd hd'
  obtain ⟨pc, hpc⟩ : ∃ pc, s.pc = pc := ⟨_, rfl⟩
  rw [hpc] at c21 p0 p1 CL
  have q0 : 0 ≤ pc * 4 := by omega
  have q1 : pc * 4 < 4294967296 := by omega
  clear h hp hV hpc hd'
  go_enter Tryz.func24, Tryz.ntmps24
  go_wp2
  go_quiet ((go_at_call 45; exact Calls.quiet_of_same (CL _ ((G.refl _).drewN _))))
  go_upto_region 4 with (go_at_call 36; refine (decode_any _ _ ((HM.out.g ((G.refl _).drewN _)).laid) HR.out.1 HR.out.2).mono ?_; rw [if_neg (by rw [HD.out]; decide)]; rintro e w1 ⟨rfl, hg⟩; have HG1 := hd (G.trans (G.drewN (G.refl w) _) hg); clear hg)
  have HG2 := hd (HG1.out.alloc #[Value.int IntKind.i64 0, Value.bool false, Value.bool false, Value.int IntKind.i64 0, Value.int IntKind.i64 0, Value.int IntKind.i64 0, Value.int IntKind.i64 0, Value.int IntKind.i64 0] 72)
  generalize w1.alloc (Obj.cells #[Value.int IntKind.i64 0, Value.bool false, Value.bool false, Value.int IntKind.i64 0, Value.int IntKind.i64 0, Value.int IntKind.i64 0, Value.int IntKind.i64 0, Value.int IntKind.i64 0] 72) = W at HG2 ⊢
  replace c26 := (HM.out.g HG2.out).cen
  replace f26 := (HM.out.g HG2.out).free 26
  clear CL c21 c22 f21
  go_wp2
  refine bodyPost_ret (results_none rfl _ _ _) rfl ?_
  exact ⟨rfl, step_end HG2.out (grown_set _ _ _ _) ((HM.out.g HG2.out).en1 (by decide))⟩
theorem word_ins {V : Int} (hd' : decB V = true) : ∃ (f : Int) (u v : Bool) (ka kb kc : Nat) (op im : Int), uIns V = ins f u v ka kb kc op im ∧ Gd f u v ka kb kc op im ∧ ∀ s : Ms, s.word inp V = s.exec inp f u v ka kb kc op im := by
  have g := gd_dec hd'
  obtain ⟨ka, ha⟩ := Int.eq_ofNat_of_zero_le g.a0.1
  obtain ⟨kb, hb⟩ := Int.eq_ofNat_of_zero_le g.b0.1
  obtain ⟨kc, hc⟩ := Int.eq_ofNat_of_zero_le g.c0.1
  refine ⟨uF V, uU V, uV V, ka, kb, kc, uOp V, uIm V, by rw [← ha, ← hb, ← hc], by rw [← ha, ← hb, ← hc]; exact g, fun s => ?_⟩
  unfold Ms.word
  rw [ha, hb, hc]
  rfl
theorem from_chg {W w' : World} {o' : Value} {s' : Ms} (g : Chg (fp a b o) w W ∧ w.heap.size ≤ W.heap.size) (h : Mach w' a hb b o' inp s' ∧ Chg (fp a b o) W w' ∧ Nw W o o') : Mach w' a hb b o' inp s' ∧ Chg (fp a b o) w w' ∧ Nw w o o' :=
  ⟨h.1, Chg.trans0 g.1 h.2.1, h.2.2.back g.2⟩
set_option maxHeartbeats 2000000 in
set_option maxRecDepth 100000 in
theorem step_go (h : Mach w a hb b o inp s) (hp : s.pc < s.xs.length) (hd' : decB (at0 s.xs s.pc.toNat) = true) :
    Calls Tryz.prog 24 #[ptr a] w fun e w' => e = .returned unit ∧ ∃ o', Mach w' a hb b o' inp ({ s with pc := s.pc + 1 }.word inp (at0 s.xs s.pc.toNat)) ∧ Chg (fp a b o) w w' ∧ Nw w o o' := by
  (have HM := hd h; have c21 := h.cpc; have c22 := h.cmem; have c26 := h.cen; have f26 := h.free 26; have f21 := h.free 21; have p0 := h.ok.pc0; have p1 := h.ok.pc1; have px := h.ok.xs1)
  have CL := word_at h hp
  have HR : Hid (W32 (at0 s.xs s.pc.toNat)) := hd (rng_at h.ok.xr _)
  have hok := h.ok.next hp
  obtain ⟨V, hV⟩ : ∃ V, at0 s.xs s.pc.toNat = V := ⟨_, rfl⟩
  rw [hV] at hd' CL HR ⊢
  have HD := hd hd'
  obtain ⟨f, u, v, ka, kb, kc, op, im, hI, hG, hW⟩ := word_ins (inp := inp) hd'
  rw [hW]
  have HI := hd hI
  have HGd := hd hG
  have hka : ka < 16 := by have := hG.a0; omega
  have hkb : kb < 16 := by have := hG.b0; omega
  have hkc : kc < 16 := by have := hG.c0; omega
  have HOK := hd hok
  obtain ⟨s1, hs1⟩ : ∃ s1 : Ms, { s with pc := s.pc + 1 } = s1 := ⟨_, rfl⟩
  have HS1 := hd hs1
  rw [hs1]
  obtain ⟨pc, hpc⟩ : ∃ pc, s.pc = pc := ⟨_, rfl⟩
  have HPC := hd hpc
  have hn : pc + 1 < 1073741824 := by rw [← hpc]; omega
  rw [hpc] at c21 p0 p1 CL
  have q0 : 0 ≤ pc * 4 := by omega
  have q1 : pc * 4 < 4294967296 := by omega
  clear h hp hV hpc hd' hI hG hW hok hs1
  go_enter Tryz.func24, Tryz.ntmps24
  go_wp2
  go_quiet ((go_at_call 45; exact Calls.quiet_of_same (CL _ ((G.refl _).drewN _))))
  go_upto_region 4 with (go_at_call 36; refine (decode_any _ _ ((HM.out.g ((G.refl _).drewN _)).laid) HR.out.1 HR.out.2).mono ?_; rw [if_pos HD.out, HI.out]; rintro e w1 ⟨rfl, hg⟩; have HG1 := hd (G.trans (G.drewN (G.refl w) _) hg); clear hg)
  have HG2 := hd (HG1.out.alloc #[Value.int IntKind.i64 f, Value.bool u, Value.bool v, Value.int IntKind.i64 ↑ka, Value.int IntKind.i64 ↑kb, Value.int IntKind.i64 ↑kc, Value.int IntKind.i64 op, Value.int IntKind.i64 im] 72)
  have HBx := hd (bx_new w1 f u v ka kb kc op im)
  have nx : ¬ w1.heap.size = a := by have := HG1.out.size; have := HM.out.lt; omega
  generalize w1.alloc (Obj.cells #[Value.int IntKind.i64 f, Value.bool u, Value.bool v, Value.int IntKind.i64 ↑ka, Value.int IntKind.i64 ↑kb, Value.int IntKind.i64 ↑kc, Value.int IntKind.i64 op, Value.int IntKind.i64 im] 72) = W at HG2 HBx ⊢
  generalize w1.heap.size = X at HBx nx ⊢
  have HMW := hd (HM.out.g HG2.out)
  replace c21 := HMW.out.cpc
  replace f21 := HMW.out.free 21
  rw [HPC.out] at c21
  clear CL c22 c26 f26 HG1
  go_upto_region 7 with fail
  have HB3 := hd (HBx.out.by (grown_set W a 21 (.int .i64 (pc + 1))) (by simpa using fun e => nx e.symm))
  have HM3 := hd (HMW.out.pc1 (p := pc + 1) (by omega) hn)
  have e1 : { s with pc := pc + 1 } = s1 := by rw [← HS1.out, HPC.out]
  rw [e1] at HM3
  have HG3 : Hid (Chg (fp a b o) w (W.setCell ⟨a, 21, none⟩ (.int .i64 (pc + 1))) ∧ w.heap.size ≤ (W.setCell ⟨a, 21, none⟩ (.int .i64 (pc + 1))).heap.size) :=
    hd ⟨Chg.trans0 (Chg.g HG2.out) (Chg.one (grown_set _ _ _ _) (by simp [fp])), Nat.le_trans HG2.out.size (grown_set W a 21 (.int .i64 (pc + 1))).size⟩
  generalize W.setCell ⟨a, 21, none⟩ (.int .i64 (pc + 1)) = W3 at HB3 HM3 HG3 ⊢
  obtain ⟨b0, b1, b2, b3, b4, b5, b6, b7, _⟩ := HB3.out
  clear c21 f21 HBx HMW HG2 e1
  have hf := HGd.out.f0
  rcases hf with rfl | rfl | rfl | rfl
  · go_wp2_with (go_at_call 46; refine (reckon_any HM3.out _ _ _ _ _ _ _ _ hka hkb hkc (.inl rfl) HGd.out).mono ?_; rintro e w4 ⟨rfl, o', hm⟩; have HN := hd (from_chg HG3.out hm); clear hm)
    go_end0
    exact ⟨rfl, _, HN.out⟩
  · go_wp2_with (go_at_call 46; refine (reckon_any HM3.out _ _ _ _ _ _ _ _ hka hkb hkc (.inr rfl) HGd.out).mono ?_; rintro e w4 ⟨rfl, o', hm⟩; have HN := hd (from_chg HG3.out hm); clear hm)
    go_end0
    exact ⟨rfl, _, HN.out⟩
  · go_wp2_with (go_at_call 47; refine (access_any HM3.out _ _ _ _ _ _ _ hka hkb).mono ?_; rintro e w4 ⟨rfl, o', hm⟩; have HN := hd (from_chg HG3.out hm); clear hm)
    go_end0
    exact ⟨rfl, _, HN.out⟩
  · go_wp2_with (go_at_call 48; refine (jump_any HM3.out _ _ _ _ _ _ _ hkc HGd.out.im0.1 HGd.out.im0.2).mono ?_; rintro e w4 ⟨rfl, o', hm⟩; have HN := hd (from_chg HG3.out hm); clear hm)
    go_end0
    exact ⟨rfl, _, HN.out⟩
theorem step_any (h : Mach w a hb b o inp s) :
    Calls Tryz.prog 24 #[ptr a] w fun e w' => e = .returned unit ∧ ∃ o', Mach w' a hb b o' inp (s.step inp) ∧ Chg (fp a b o) w w' ∧ Nw w o o' := by
  unfold Ms.step
  by_cases hp : s.pc < s.xs.length
  · rw [if_pos hp]
    cases hd' : decB (at0 s.xs s.pc.toNat)
    · exact step_bad h hp hd'
    · exact step_go h hp hd'
  · rw [if_neg hp]
    exact step_out h hp
end
end Go.Proofs.YtfdofleohichiaaGreatDoor.Cpu
namespace Go.Proofs.YtfdofleohichiaaGreatDoor.Cpu
open Go.RowKit Go.Proofs.YtfdofleohichiaaGreatDoor.Bits Go.Proofs.YtfdofleohichiaaGreatDoor.Gw Go.Proofs.YtfdofleohichiaaGreatDoor.Risc Go.Proofs.YtfdofleohichiaaGreatDoor.Alu Go.Proofs.YtfdofleohichiaaGreatDoor.Mem
set_option linter.unusedVariables false

def strO (l : List Int) : ByteArray := ⟨(l.map fun n => UInt8.ofNat n.toNat).toArray⟩
theorem foldl_strO : ∀ (l : List Int) (r : ByteArray), l.foldl (fun r n => r.push (UInt8.ofNat n.toNat)) r = ⟨r.data ++ (l.map fun n => UInt8.ofNat n.toNat).toArray⟩
  | [], r => by simp
  | n :: l, r => by
    rw [List.foldl_cons, foldl_strO l]
    simp [ByteArray.push]
set_option maxRecDepth 100000 in
theorem conv_out {V : World} {o : Value} {l : List Int} (h : V.ownsRow 21 5 1 o l.length (l.map b8)) : (convert 50 9 o).run Tryz.prog V = .ok (.string (strO l)) V := by
  have hlen := h.1
  rcases h.2 with ⟨rfl, h0⟩ | ⟨g, cap, cur, ho, _, hg, hc, hm, hs, ht⟩
  · have : l = [] := List.eq_nil_of_length_eq_zero h0
    subst this
    rw [run_convert_bytes_string V 50 9 5 none 0 0 Tryz.underlying50 Tryz.underlying5 Tryz.underlying9]
    unfold Conv.bytesToString
    simp [Sem.run_pure, strO]
    rfl
  · subst ho
    rw [run_convert_bytes_string V 50 9 5 _ _ _ Tryz.underlying50 Tryz.underlying5 Tryz.underlying9]
    have hl := run_loadCells_list (P := Tryz.prog) V ⟨g, 0, none⟩ (l.map b8) (h.cells (g := g) rfl)
    simp only [List.length_map] at hl
    rw [run_bytesToString V ⟨g, 0, none⟩ l.length cap l hl, foldl_strO, show ByteArray.empty.data = #[] from rfl]
    simp [strO]
section
variable {w : World} {a hb b : Nat} {o : Value} {inp : ByteArray} {s : Ms}
def outcome (s : Ms) (n : Nat) : Value := .agg #[.int .i64 s.en, .int .i64 s.tr, .string (strO s.out), .int .i64 n, .int .i64 s.rd]
set_option maxHeartbeats 2000000 in
set_option maxRecDepth 100000 in
theorem run_no (v : Value) (k : Int) (w : World) (hk : v = .pointer none ∨ (∃ a, v = ptr a) ∧ (k < 0 ∨ 4194304 < k)) :
    Calls Tryz.prog 9 #[v, .int .i64 k] w fun e w' => e = .returned (.tuple #[.agg #[.int .i64 0, .int .i64 0, .string ⟨#[]⟩, .int .i64 0, .int .i64 0], .int .i64 1]) ∧ G w w' := by
  rcases hk with rfl | ⟨⟨a, rfl⟩, hk | hk⟩
  · go_enter Tryz.func9, Tryz.ntmps9
    go_wp2
    exact bodyPost_ret (v := .tuple #[.agg #[.int .i64 0, .int .i64 0, .string ⟨#[]⟩, .int .i64 0, .int .i64 0], .int .i64 1]) (by simp [results, Tryz.results9, go_sem]) rfl ⟨rfl, (G.refl _).alloc _ _⟩
  · go_enter Tryz.func9, Tryz.ntmps9
    go_wp2
    exact bodyPost_ret (v := .tuple #[.agg #[.int .i64 0, .int .i64 0, .string ⟨#[]⟩, .int .i64 0, .int .i64 0], .int .i64 1]) (by simp [results, Tryz.results9, go_sem]) rfl ⟨rfl, (G.refl _).alloc _ _⟩
  · have h0 : ¬ k < 0 := by omega
    go_enter Tryz.func9, Tryz.ntmps9
    go_wp2
    exact bodyPost_ret (v := .tuple #[.agg #[.int .i64 0, .int .i64 0, .string ⟨#[]⟩, .int .i64 0, .int .i64 0], .int .i64 1]) (by simp [results, Tryz.results9, go_sem]) rfl ⟨rfl, (G.refl _).alloc _ _⟩
/- The result's own block stays through the run. -/
theorem zo_kept {w wr : World} {F : List Nat} {C : Obj} (h : Chg F (w.alloc C) wr) (hF : ∀ k ∈ F, k < w.heap.size) : wr.heap[w.heap.size]? = some C := by
  rw [h.block w.heap.size (by simp) (fun e => by have := hF _ e; omega)]
  exact heap_alloc_new w C
theorem fp_lt (h : Mach w a hb b o inp s) : ∀ k ∈ fp a b o, k < w.heap.size := by
  intro k hk
  simp only [fp, List.mem_cons, obl_mem] at hk
  rcases hk with rfl | rfl | hk
  · exact h.lt
  · exact h.ltb
  · exact (h.lto hk).2
/- One call more: what was put out may have moved. -/
theorem chg_step {W wr w' : World} {o1 o2 : Value} (h : Chg (fp a b o) W wr) (n : Nw W o o1) (k : Chg (fp a b o1) wr w') (n' : Nw wr o1 o2) : Chg (fp a b o) W w' ∧ Nw W o o2 := by
  refine ⟨h.trans k (fun j hj => ?_), fun j hj => ?_⟩
  · simp only [fp, List.mem_cons, obl_mem] at hj ⊢
    rcases hj with e | e | e
    · exact .inl (.inl e)
    · exact .inl (.inr (.inl e))
    · rcases n j e with e | e
      · exact .inl (.inr (.inr e))
      · exact .inr e
  · rcases n' j hj with e | e
    · exact n j e
    · exact .inr (Nat.le_trans h.size e)
theorem ret_oc {e1 t1 n1 d1 e2 t2 n2 d2 : Int} {z1 z2 : ByteArray} (h1 : e1 = e2) (h2 : t1 = t2) (h3 : z1 = z2) (h4 : n1 = n2) (h5 : d1 = d2) :
    Ending.returned (.tuple #[.agg #[.int .i64 e1, .int .i64 t1, .string z1, .int .i64 n1, .int .i64 d1], .int .i64 0]) = .returned (.tuple #[.agg #[.int .i64 e2, .int .i64 t2, .string z2, .int .i64 n2, .int .i64 d2], .int .i64 0]) := by
  rw [h1, h2, h3, h4, h5]
theorem run_fin {wr WF : World} {o1 : Value} {s1 : Ms} {C : Obj} (hM : Mach w a hb b o inp s) (hm : Mach wr a hb b o1 inp s1) (hc : Chg (fp a b o) (w.alloc C) wr) (hn : Nw (w.alloc C) o o1) (hg : wr.grownBy WF (some w.heap.size)) :
    Mach WF a hb b o1 inp s1 ∧ Chg (fp a b o) w WF ∧ Nw w o o1 := by
  have hz : w.heap.size ≤ (w.alloc C).heap.size := by simp
  have hz1 : (w.alloc C).heap.size = w.heap.size + 1 := by simp
  refine ⟨hm.kept (F := [w.heap.size]) (Chg.one hg (by simp)) ?_ ?_ ?_ ?_ ?_, ?_, hn.back hz⟩
  · have := hM.lt; have := hM.lo.1; intro k hk; simp at hk; omega
  · have := hM.lt; simp; omega
  · have := hM.lth; simp; omega
  · have := hM.ltb; simp; omega
  · intro k hk
    rcases hn k hk with e | e
    · have := (hM.lto e).2; simp; omega
    · simp; omega
  · exact Chg.trans (Chg.trans0 (Chg.still (World.grownBy_alloc _ _ _)) hc) (Chg.one hg (by simp) : Chg [w.heap.size] wr WF) (fun j hj => by simp at hj; exact .inr (by omega))
theorem heap_drew (V : World) : V.drew.heap = V.heap := rfl
theorem set5 {V : World} {q : Nat} {l0 l1 l2 l3 l4 : Value} {t : TypeId} (h : V.heap[q]? = some (.cells #[l0, l1, l2, l3, l4] t (0, 0))) (x0 x1 x2 x3 x4 : Value) :
    ((((((V.setCell ⟨q, 0, none⟩ x0).setCell ⟨q, 1, none⟩ x1).setCell ⟨q, 2, none⟩ x2).setCell ⟨q, 3, none⟩ x3).setCell ⟨q, 4, none⟩ x4).drew).heap[q]? = some (.cells [x0, x1, x2, x3, x4].toArray t (0, 0)) := by
  have h' : V.heap[q]? = some (.cells [l0, l1, l2, l3, l4].toArray t (0, 0)) := h
  have := blk_set (blk_set (blk_set (blk_set (blk_set h' 0 x0) 1 x1) 2 x2) 3 x3) 4 x4
  simp only [List.set_cons_zero, List.set_cons_succ] at this
  rw [heap_drew]
  with_reducible exact this
theorem grown_set5 (w : World) (b i1 i2 i3 i4 i5 : Nat) (v1 v2 v3 v4 v5 : Value) :
    w.grownBy ((((((w.setCell ⟨b, i1, none⟩ v1).setCell ⟨b, i2, none⟩ v2).setCell ⟨b, i3, none⟩ v3).setCell ⟨b, i4, none⟩ v4).setCell ⟨b, i5, none⟩ v5).drew) (some b) :=
  grown_drew (grown_trans (grown_set3 _ _ _ _ _ _ _ _) (grown_set2 _ _ _ _ _ _))
set_option maxHeartbeats 4000000 in
set_option maxRecDepth 100000 in
theorem run_any (h : Mach w a hb b o inp s) (k : Nat) (hk : k ≤ 4194304) :
    Calls Tryz.prog 9 #[ptr a, .int .i64 k] w fun e w' => ∃ o', e = .returned (.tuple #[outcome (it inp k s) (ct inp k s), .int .i64 0]) ∧ Mach w' a hb b o' inp (it inp k s) ∧ Chg (fp a b o) w w' ∧ Nw w o o' := by
  have HM := hd h
  have HF := hd (fp_lt h)
  have i0 : ¬ (k : Int) < 0 := by omega
  have i1 : ¬ (4194304 : Int) < (k : Int) := by omega
  have HK := hd hk
  clear h hk
  go_enter Tryz.func9, Tryz.ntmps9
  go_wp2
  have HM0 := hd (HM.out.g ((G.refl w).alloc #[Value.int IntKind.i64 0, Value.int IntKind.i64 0, Value.string ⟨#[]⟩, Value.int IntKind.i64 0, Value.int IntKind.i64 0] 33))
  go_loopw [6] (fun st wr => ∃ (j : Nat) (o' : Value) (s' : Ms), j ≤ k ∧ st = .int .i64 j ∧ Mach wr a hb b o' inp s' ∧ Chg (fp a b o) (w.alloc (Obj.cells #[Value.int IntKind.i64 0, Value.int IntKind.i64 0, Value.string ⟨#[]⟩, Value.int IntKind.i64 0, Value.int IntKind.i64 0] 33)) wr ∧ Nw (w.alloc (Obj.cells #[Value.int IntKind.i64 0, Value.int IntKind.i64 0, Value.string ⟨#[]⟩, Value.int IntKind.i64 0, Value.int IntKind.i64 0] 33)) o o' ∧ it inp k s = it inp (k - j) s' ∧ ct inp k s = j + ct inp (k - j) s')
    (fun st _ => k - (intOf st).toNat)
  case atStart => exact ⟨0, o, s, Nat.zero_le _, rfl, HM0.out, Chg.refl _ _, Nw.refl _ _, rfl, by simp⟩
  case round =>
    obtain ⟨j, o1, s1, hj, rfl, hm, hc, hn, hi, ht⟩ := hrel
    have HM1 := hd hm
    have HC := hd (And.intro hc hn)
    have HI := hd (And.intro hi ht)
    have hX := zo_kept hc HF.out
    have c26 := hm.cen
    clear hc hn hi ht
    by_cases hlt : j < k ∧ s1.en = 3
    · obtain ⟨h1, h2⟩ := hlt
      have i2 : (j : Int) < (k : Int) := by omega
      have H2 := hd h2
      rw [h2] at c26
      clear hm h2 hX
      go_wp2_with (go_at_call 24; refine (step_any HM1.out).mono ?_; rintro e w2 ⟨rfl, o2, hm2, hc2, hn2⟩; have HS := hd (And.intro hm2 (And.intro hc2 hn2)); clear hm2 hc2 hn2)
      obtain ⟨hm2, hc2, hn2⟩ := HS.out
      obtain ⟨hc3, hn3⟩ := chg_step HC.out.1 HC.out.2 hc2 hn2
      have e1 : k - j = (k - (j + 1)) + 1 := by omega
      have hi := HI.out
      rw [e1, (it_succ inp _ s1 H2.out).1, (it_succ inp _ s1 H2.out).2] at hi
      exact ⟨⟨j + 1, o2, _, by omega, by go_num, hm2, hc3, hn3, hi.1, by rw [hi.2]; omega⟩, by simp [intOf]; omega⟩
    · have he : it inp (k - j) s1 = s1 ∧ ct inp (k - j) s1 = 0 := by
        by_cases h1 : j < k
        · exact it_end inp _ s1 (fun e => hlt ⟨h1, e⟩)
        · rw [show k - j = 0 by omega]; exact ⟨rfl, rfl⟩
      have HE := hd he
      have CV : (convert 50 9 o1).run Tryz.prog wr.drew = .ok (.string (strO s1.out)) wr.drew := conv_out (hm.g (G.drew (G.refl _))).out
      have d24 := hm.crd
      have d25 := hm.cout
      have d27 := hm.ctr
      have x0 : wr.cell? ⟨w.heap.size, 0, none⟩ = some (.int .i64 0) := by simp [World.cell?, hX]
      have x1 : wr.cell? ⟨w.heap.size, 1, none⟩ = some (.int .i64 0) := by simp [World.cell?, hX]
      have x2 : wr.cell? ⟨w.heap.size, 2, none⟩ = some (.string ⟨#[]⟩) := by simp [World.cell?, hX]
      have x3 : wr.cell? ⟨w.heap.size, 3, none⟩ = some (.int .i64 0) := by simp [World.cell?, hX]
      have x4 : wr.cell? ⟨w.heap.size, 4, none⟩ = some (.int .i64 0) := by simp [World.cell?, hX]
      have y : ∀ i, wr.frozen? ⟨w.heap.size, i, none⟩ = false := fun i => by simp [World.frozen?, hX]
      have HX := hd hX
      obtain ⟨en, hen⟩ : ∃ en, s1.en = en := ⟨_, rfl⟩
      rw [hen] at c26
      have HEN := hd hen
      clear hm he hX
      by_cases h1 : j < k
      · have i2 : (j : Int) < (k : Int) := by omega
        have e3 : (en == 3) = false := by rw [← hen]; simpa using fun e => hlt ⟨h1, e⟩
        clear hlt hen
        go_wp2
        refine region_tail 19 (by kernel_rfl) (by kernel_rfl) ?_
        simp only [List.take_succ_cons, List.take_zero, List.drop_succ_cons, List.drop_zero]
        repeat (first | still_step)
        refine wpStill_nil ?_
        go_wp2
        (have HB5 := set5 HX.out (.int .i64 en) (.int .i64 s1.tr) (.string (strO s1.out)) (.int .i64 j) (.int .i64 s1.rd); have hfin := run_fin HM.out HM1.out HC.out.1 HC.out.2 (grown_set5 wr w.heap.size 0 1 2 3 4 (.int .i64 en) (.int .i64 s1.tr) (.string (strO s1.out)) (.int .i64 j) (.int .i64 s1.rd)); have hi := HI.out; rw [HE.out.1, HE.out.2] at hi; generalize (((((wr.setCell ⟨w.heap.size, 0, none⟩ (.int .i64 en)).setCell ⟨w.heap.size, 1, none⟩ (.int .i64 s1.tr)).setCell ⟨w.heap.size, 2, none⟩ (.string (strO s1.out))).setCell ⟨w.heap.size, 3, none⟩ (.int .i64 j)).setCell ⟨w.heap.size, 4, none⟩ (.int .i64 s1.rd)).drew = WF at HB5 hfin ⊢; have z0 := cell_blk HB5 0; have z1 := cell_blk HB5 1; have z2 := cell_blk HB5 2; have z3 := cell_blk HB5 3; have z4 := cell_blk HB5 4; simp only [List.getElem?_cons_zero, List.getElem?_cons_succ] at z0 z1 z2 z3 z4; refine bodyPost_ret (v := .tuple #[.agg #[.int .i64 en, .int .i64 s1.tr, .string (strO s1.out), .int .i64 j, .int .i64 s1.rd], .int .i64 0]) (by simp [results, Tryz.results9, go_sem, z0, z1, z2, z3, z4]) rfl ?_; rw [hi.1, hi.2, ← HEN.out]; exact ⟨o1, rfl, hfin⟩)
      · have i2 : ¬ (j : Int) < (k : Int) := by omega
        clear hlt hen
        go_wp2
        refine region_tail 19 (by kernel_rfl) (by kernel_rfl) ?_
        simp only [List.take_succ_cons, List.take_zero, List.drop_succ_cons, List.drop_zero]
        repeat (first | still_step)
        refine wpStill_nil ?_
        go_wp2
        (have HB5 := set5 HX.out (.int .i64 en) (.int .i64 s1.tr) (.string (strO s1.out)) (.int .i64 j) (.int .i64 s1.rd); have hfin := run_fin HM.out HM1.out HC.out.1 HC.out.2 (grown_set5 wr w.heap.size 0 1 2 3 4 (.int .i64 en) (.int .i64 s1.tr) (.string (strO s1.out)) (.int .i64 j) (.int .i64 s1.rd)); have hi := HI.out; rw [HE.out.1, HE.out.2] at hi; generalize (((((wr.setCell ⟨w.heap.size, 0, none⟩ (.int .i64 en)).setCell ⟨w.heap.size, 1, none⟩ (.int .i64 s1.tr)).setCell ⟨w.heap.size, 2, none⟩ (.string (strO s1.out))).setCell ⟨w.heap.size, 3, none⟩ (.int .i64 j)).setCell ⟨w.heap.size, 4, none⟩ (.int .i64 s1.rd)).drew = WF at HB5 hfin ⊢; have z0 := cell_blk HB5 0; have z1 := cell_blk HB5 1; have z2 := cell_blk HB5 2; have z3 := cell_blk HB5 3; have z4 := cell_blk HB5 4; simp only [List.getElem?_cons_zero, List.getElem?_cons_succ] at z0 z1 z2 z3 z4; refine bodyPost_ret (v := .tuple #[.agg #[.int .i64 en, .int .i64 s1.tr, .string (strO s1.out), .int .i64 j, .int .i64 s1.rd], .int .i64 0]) (by simp [results, Tryz.results9, go_sem, z0, z1, z2, z3, z4]) rfl ?_; rw [hi.1, hi.2, ← HEN.out]; exact ⟨o1, rfl, hfin⟩)
end
end Go.Proofs.YtfdofleohichiaaGreatDoor.Cpu
