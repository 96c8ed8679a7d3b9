/-
  What package cpu's jump does.
-/
import Derived.Test.YtfdofleohichiaaDoorCpu4
namespace Go.Proofs.YtfdofleohichiaaDoor.Cpu
open Go.RowKit Go.Proofs.YtfdofleohichiaaDoor.Bits Go.Proofs.YtfdofleohichiaaDoor.Gw Go.Proofs.YtfdofleohichiaaDoor.Risc Go.Proofs.YtfdofleohichiaaDoor.Alu Go.Proofs.YtfdofleohichiaaDoor.Mem
set_option linter.unusedVariables false

/- An instruction lies in a block of its own. -/
structure Bx (W : World) (X : Nat) (f : Int) (u v : Bool) (a b c op im : Int) : Prop where
  b0 : W.cell? ⟨X, 0, none⟩ = some (.int .i64 f)
  b1 : W.cell? ⟨X, 1, none⟩ = some (.bool u)
  b2 : W.cell? ⟨X, 2, none⟩ = some (.bool v)
  b3 : W.cell? ⟨X, 3, none⟩ = some (.int .i64 a)
  b4 : W.cell? ⟨X, 4, none⟩ = some (.int .i64 b)
  b5 : W.cell? ⟨X, 5, none⟩ = some (.int .i64 c)
  b6 : W.cell? ⟨X, 6, none⟩ = some (.int .i64 op)
  b7 : W.cell? ⟨X, 7, none⟩ = some (.int .i64 im)
  lt : X < W.heap.size
section
variable {W W' : World} {X : Nat} {f : Int} {u v : Bool} {a b c op im : Int}
theorem bx_new (w : World) (f : Int) (u v : Bool) (a b c op im : Int) : Bx (w.alloc (.cells #[.int .i64 f, .bool u, .bool v, .int .i64 a, .int .i64 b, .int .i64 c, .int .i64 op, .int .i64 im] 39)) w.heap.size f u v a b c op im :=
  ⟨by simp, by simp, by simp, by simp, by simp, by simp, by simp, by simp, by simp⟩
theorem Bx.by (h : Bx W X f u v a b c op im) {r : Option Nat} (g : W.grownBy W' r) (hr : r ≠ some X) : Bx W' X f u v a b c op im :=
  ⟨g.cell h.b0 (fun e => hr e.symm), g.cell h.b1 (fun e => hr e.symm), g.cell h.b2 (fun e => hr e.symm), g.cell h.b3 (fun e => hr e.symm), g.cell h.b4 (fun e => hr e.symm), g.cell h.b5 (fun e => hr e.symm), g.cell h.b6 (fun e => hr e.symm), g.cell h.b7 (fun e => hr e.symm), Nat.lt_of_lt_of_le h.lt g.size⟩
theorem Bx.g (h : Bx W X f u v a b c op im) (g : G W W') : Bx W' X f u v a b c op im := h.by (grown_g g none) (by simp)
end
section
variable {w : World} {a hb b : Nat} {o : Value} {inp : ByteArray} {s : Ms}
theorem Mach.regset (h : Mach w a hb b o inp s) {k : Nat} (hk : k < 16) {r : Int} (hr : W32 r) : Mach (w.setCell ⟨a, k, none⟩ (wd r)) a hb b o inp { s with R := s.R.set k r } := by
  refine h.wrote (grown_set _ _ _ _) ?_ rfl rfl ⟨by simp [h.ok.r16], inR_set h.ok.rr _ hr.1 hr.2, h.ok.h0, h.ok.pc0, h.ok.pc1, h.ok.xs1, h.ok.xr, h.ok.rd1, h.ok.in1, h.ok.out1, h.ok.outr, h.ok.en0, h.ok.tr0⟩
  rw [blk_set h.blk k (wd r), ms_reg _ _ _ _ h.ok.r16 hk]
theorem from_set {W w' : World} {o : Value} {s' : Ms} (g : G w W) (k : W.grownBy w' (some a)) (h : Mach w' a hb b o inp s') : ∃ o', Mach w' a hb b o' inp s' ∧ Chg (fp a b o) w w' ∧ Nw w o o' :=
  ⟨o, h, Chg.trans0 (Chg.g g) (Chg.one k (by simp [fp])), Nw.refl _ _⟩
set_option maxHeartbeats 1000000 in
set_option maxRecDepth 100000 in
theorem jump_no (h : Mach w a hb b o inp s) (u v : Bool) (ka : Nat) (y : Int) (kc : Nat) (op im : Int) (hh : holdsB ka s.n s.z s.c s.v = false) :
    Calls Tryd.prog 24 #[ptr a, ins 3 u v ka y kc op im] w fun e w' => e = .returned unit ∧ Mach w' a hb b o inp s ∧ G w w' := by
  have HM := hd h
  have HH := hd hh
  clear h hh
  (go_enter Tryd.func24, Tryd.ntmps24; go_upto_region 1 with fail; have HBx := hd (bx_new w 3 u v ka y kc op im); have HG := hd ((G.refl w).alloc #[Value.int IntKind.i64 3, Value.bool u, Value.bool v, Value.int IntKind.i64 ↑ka, Value.int IntKind.i64 y, Value.int IntKind.i64 ↑kc, Value.int IntKind.i64 op, Value.int IntKind.i64 im] 39); have nx : ¬ w.heap.size = a := (by have := HM.out.lt; omega); generalize (w.alloc (Obj.cells #[Value.int IntKind.i64 3, Value.bool u, Value.bool v, Value.int IntKind.i64 ↑ka, Value.int IntKind.i64 y, Value.int IntKind.i64 ↑kc, Value.int IntKind.i64 op, Value.int IntKind.i64 im] 39)) = W at HBx HG ⊢; generalize w.heap.size = X at HBx nx ⊢; have HMW := hd (HM.out.g HG.out); have b3 := HBx.out.b3; have c17 := HMW.out.cn; have c18 := HMW.out.cz; have c19 := HMW.out.cc; have c20 := HMW.out.cv; refine region_tail 6 (by kernel_rfl) (by kernel_rfl) ?_; simp only [List.take_succ_cons, List.take_zero, List.drop_succ_cons, List.drop_zero]; (repeat (first | still_step)); refine wpStill_nil ?_)
  go_wp2_with (go_at_call 42; refine (holds_any _ _ _ _ _ _ (by omega)).mono ?_; rw [HH.out]; rintro e w2 ⟨rfl, hg⟩; have HG2 := hd (G.trans (G.drew HG.out) hg); have HM2 := hd (HM.out.g HG2.out); have HB2 := hd (HBx.out.g (G.trans (G.drew (G.refl _)) hg)); have b8 := HB2.out; have d21 := HM2.out.cpc; obtain ⟨d0, d1, d2, d3, d4, d5, d6, d7, _⟩ := HB2.out; clear hg b8)
  refine bodyPost_ret (results_none rfl _ _ _) rfl ?_
  exact ⟨rfl, HM2.out, HG2.out⟩
set_option maxHeartbeats 1000000 in
set_option maxRecDepth 100000 in
theorem jump_yes (h : Mach w a hb b o inp s) (u v : Bool) (ka : Nat) (y : Int) (kc : Nat) (op im : Int) (hkc : kc < 16) (i0 : -8388608 ≤ im) (i1 : im ≤ 8388607) (hh : holdsB ka s.n s.z s.c s.v = true) :
    Calls Tryd.prog 24 #[ptr a, ins 3 u v ka y kc op im] w fun e w' => e = .returned unit ∧ ∃ o', Mach w' a hb b o' inp { s with pc := s.target u kc im, R := if v = true then s.R.set 15 (s.pc * 4 % 4294967296) else s.R } ∧ Chg (fp a b o) w w' ∧ Nw w o o' := by
  have HM := hd h
  have HH := hd hh
  obtain ⟨T, hT⟩ : ∃ T, s.target u kc im = T := ⟨_, rfl⟩
  have HT := hd hT
  have HTB : Hid (0 ≤ T ∧ T < 1073741824) := hd (by rw [← hT]; exact target_bd h.ok u kc im)
  have p0 := h.ok.pc0
  have p1 := h.ok.pc1
  rw [hT]
  clear h hh hT
  cases v
  · (go_enter Tryd.func24, Tryd.ntmps24; go_upto_region 1 with fail; have HBx := hd (bx_new w 3 u false ka y kc op im); have HG := hd ((G.refl w).alloc #[Value.int IntKind.i64 3, Value.bool u, Value.bool false, Value.int IntKind.i64 ↑ka, Value.int IntKind.i64 y, Value.int IntKind.i64 ↑kc, Value.int IntKind.i64 op, Value.int IntKind.i64 im] 39); have nx : ¬ w.heap.size = a := (by have := HM.out.lt; omega); generalize (w.alloc (Obj.cells #[Value.int IntKind.i64 3, Value.bool u, Value.bool false, Value.int IntKind.i64 ↑ka, Value.int IntKind.i64 y, Value.int IntKind.i64 ↑kc, Value.int IntKind.i64 op, Value.int IntKind.i64 im] 39)) = W at HBx HG ⊢; generalize w.heap.size = X at HBx nx ⊢; have HMW := hd (HM.out.g HG.out); have b3 := HBx.out.b3; have c17 := HMW.out.cn; have c18 := HMW.out.cz; have c19 := HMW.out.cc; have c20 := HMW.out.cv; refine region_tail 6 (by kernel_rfl) (by kernel_rfl) ?_; simp only [List.take_succ_cons, List.take_zero, List.drop_succ_cons, List.drop_zero]; (repeat (first | still_step)); refine wpStill_nil ?_)
    go_wp2_with (first | (go_at_call 42; refine (holds_any _ _ _ _ _ _ (by omega)).mono ?_; rw [HH.out]; rintro e w2 ⟨rfl, hg⟩; have HG2 := hd (G.trans (G.drew HG.out) hg); have HM2 := hd (HM.out.g HG2.out); have HB2 := hd (HBx.out.g (G.trans (G.drew (G.refl _)) hg)); have b8 := HB2.out; have d21 := HM2.out.cpc; obtain ⟨d0, d1, d2, d3, d4, d5, d6, d7, _⟩ := HB2.out; clear hg b8) | (go_at_call 43; refine (target_any HM2.out _ _ _ _ _ _ _ hkc i0 i1).mono ?_; rw [HT.out]; rintro e w3 ⟨rfl, hg⟩; have HG3 := hd (G.trans HG2.out hg); have HM3 := hd (HM.out.g HG3.out); have b2 := (HB2.out.g hg).b2; have c21 := HM3.out.cpc; have f21 := HM3.out.free 21; have c15 := HM3.out.reg (show 15 < 16 by decide); have f15 := HM3.out.free 15; clear hg))
    go_end0
    refine ⟨rfl, from_set HG3.out (grown_set _ _ _ _) ?_⟩
    exact HM3.out.pc1 HTB.out.1 HTB.out.2
  · (go_enter Tryd.func24, Tryd.ntmps24; go_upto_region 1 with fail; have HBx := hd (bx_new w 3 u true ka y kc op im); have HG := hd ((G.refl w).alloc #[Value.int IntKind.i64 3, Value.bool u, Value.bool true, Value.int IntKind.i64 ↑ka, Value.int IntKind.i64 y, Value.int IntKind.i64 ↑kc, Value.int IntKind.i64 op, Value.int IntKind.i64 im] 39); have nx : ¬ w.heap.size = a := (by have := HM.out.lt; omega); generalize (w.alloc (Obj.cells #[Value.int IntKind.i64 3, Value.bool u, Value.bool true, Value.int IntKind.i64 ↑ka, Value.int IntKind.i64 y, Value.int IntKind.i64 ↑kc, Value.int IntKind.i64 op, Value.int IntKind.i64 im] 39)) = W at HBx HG ⊢; generalize w.heap.size = X at HBx nx ⊢; have HMW := hd (HM.out.g HG.out); have b3 := HBx.out.b3; have c17 := HMW.out.cn; have c18 := HMW.out.cz; have c19 := HMW.out.cc; have c20 := HMW.out.cv; refine region_tail 6 (by kernel_rfl) (by kernel_rfl) ?_; simp only [List.take_succ_cons, List.take_zero, List.drop_succ_cons, List.drop_zero]; (repeat (first | still_step)); refine wpStill_nil ?_)
    go_wp2_with (first | (go_at_call 42; refine (holds_any _ _ _ _ _ _ (by omega)).mono ?_; rw [HH.out]; rintro e w2 ⟨rfl, hg⟩; have HG2 := hd (G.trans (G.drew HG.out) hg); have HM2 := hd (HM.out.g HG2.out); have HB2 := hd (HBx.out.g (G.trans (G.drew (G.refl _)) hg)); have b8 := HB2.out; have d21 := HM2.out.cpc; obtain ⟨d0, d1, d2, d3, d4, d5, d6, d7, _⟩ := HB2.out; clear hg b8) | (go_at_call 43; refine (target_any HM2.out _ _ _ _ _ _ _ hkc i0 i1).mono ?_; rw [HT.out]; rintro e w3 ⟨rfl, hg⟩; have HG3 := hd (G.trans HG2.out hg); have HM3 := hd (HM.out.g HG3.out); have b2 := (HB2.out.g hg).b2; have c21 := HM3.out.cpc; have f21 := HM3.out.free 21; have c15 := HM3.out.reg (show 15 < 16 by decide); have f15 := HM3.out.free 15; clear hg))
    refine region_tail 7 (by kernel_rfl) (by kernel_rfl) ?_
    simp only [List.take_succ_cons, List.take_zero, List.drop_succ_cons, List.drop_zero]
    repeat (first | still_step | still_call (word_any _ _))
    refine wpStill_nil ?_
    go_wp2
    go_end0
    refine ⟨rfl, from_set HG3.out (grown_trans (grown_set _ _ _ _) (grown_trans (grown_drew (World.grownBy.refl _ _)) (grown_set _ _ _ _))) ?_⟩
    exact ((HM3.out.pc1 HTB.out.1 HTB.out.2).g ((G.refl _).drew)).regset (by decide) (W32.mod _)
end
end Go.Proofs.YtfdofleohichiaaDoor.Cpu
