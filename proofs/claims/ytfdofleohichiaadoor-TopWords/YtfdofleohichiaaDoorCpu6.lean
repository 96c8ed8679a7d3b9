/-
  What package cpu's reckon does.
-/
import Derived.Test.YtfdofleohichiaaDoorCpu5
import Derived.Test.YtfdofleohichiaaDoorCflb
import Derived.Deep.Cut
namespace Go.Proofs.YtfdofleohichiaaDoor.Cpu
open Go.RowKit Go.Proofs.YtfdofleohichiaaDoor.Bits Go.Proofs.YtfdofleohichiaaDoor.Gw Go.Proofs.YtfdofleohichiaaDoor.Risc Go.Proofs.YtfdofleohichiaaDoor.Alu Go.Proofs.YtfdofleohichiaaDoor.Mem
set_option linter.unusedVariables false

section
variable {w : World} {a hb b : Nat} {o : Value} {inp : ByteArray} {s : Ms}
theorem lsl16 (im : Int) (h0 : 0 ≤ im) (h1 : im ≤ 65535) : lslI im 16 = im * 65536 := by
  obtain ⟨n, rfl⟩ := Int.eq_ofNat_of_zero_le h0
  have e : (n * 2 ^ 16 : Nat) = n * 65536 := rfl
  show ((n * 2 ^ 16 % 4294967296 : Nat) : Int) = _
  rw [e]; omega
set_option maxHeartbeats 1000000 in
set_option maxRecDepth 100000 in
theorem reckon_a (h : Mach w a hb b o inp s) (u v : Bool) (ka kb kc : Nat) (op im : Int) (hka : ka < 16) (h0 : 0 ≤ im) (h1 : im ≤ 65535) (ho : op = 0) (hu : u = true) :
    Calls Tryd.prog 22 #[ptr a, ins 1 u v ka kb kc op im] w fun e w' => e = .returned unit ∧ Mach w' a hb b o inp (s.setBy ka (im * 65536)) ∧ w.grownBy w' (some a) := by
  have HM := hd h
  have e1 : im % 4294967296 = im := by omega
  have HL := hd (lsl16 im h0 h1)
  have HW : Hid (W32 (im * 65536)) := hd ⟨by omega, by omega⟩
  have cl : ∀ W, Calls Tryd.prog 35 #[.int .u32 im, .int .u32 16] W fun e w' => e = .returned (.int .u32 (im * 65536)) ∧ w' = W := fun W => by rw [← HL.out]; exact lsl_any im 16 W h0 (by decide) (by decide)
  have cw : ∀ W, Calls Tryd.prog 36 #[.int .i64 im] W fun e w' => e = .returned (.int .u32 im) ∧ w' = W := fun W => by have := word_any im W; rwa [e1] at this
  have ia0 : (0 : Int) ≤ (ka : Int) := by omega
  have ia1 : (ka : Int) < 16 := by omega
  have HO := hd (And.intro ho hu)
  clear h ho hu
  (go_enter Tryd.func22, Tryd.ntmps22; go_upto_region 1 with fail; have HBx := hd (bx_new w 1 u v ka kb kc op im); have HG := hd ((G.refl w).alloc #[Value.int IntKind.i64 1, Value.bool u, Value.bool v, Value.int IntKind.i64 ↑ka, Value.int IntKind.i64 ↑kb, Value.int IntKind.i64 ↑kc, Value.int IntKind.i64 op, Value.int IntKind.i64 im] 39); have nx : ¬ w.heap.size = a := (by have := HM.out.lt; omega); generalize w.alloc (Obj.cells #[Value.int IntKind.i64 1, Value.bool u, Value.bool v, Value.int IntKind.i64 ↑ka, Value.int IntKind.i64 ↑kb, Value.int IntKind.i64 ↑kc, Value.int IntKind.i64 op, Value.int IntKind.i64 im] 39) = W at HBx HG ⊢; generalize w.heap.size = X at HBx nx ⊢; have HMW := hd (HM.out.g HG.out); obtain ⟨b0, b1, b2, b3, b4, b5, b6, b7, _⟩ := HBx.out)
  obtain ⟨rfl, rfl⟩ := HO.out
  go_wp2
  refine region_tail 7 (by kernel_rfl) (by kernel_rfl) ?_
  simp only [List.take_succ_cons, List.take_zero, List.drop_succ_cons, List.drop_zero]
  repeat (first | still_step | still_call (cw _) | still_call (cl _))
  refine wpStill_nil ?_
  go_wp2_with (go_at_call 34; refine (setBy_any (HMW.out.g (G.drew (G.refl _))) _ hka _ HW.out).mono ?_; rintro e w2 ⟨rfl, hm, hg⟩; have HX2 := hd hm; have HH2 := hd hg; clear hm hg)
  refine bodyPost_ret (results_none rfl _ _ _) rfl ?_
  exact ⟨rfl, HX2.out, grown_trans (grown_g (G.drew HG.out) _) HH2.out⟩
set_option maxHeartbeats 1000000 in
set_option maxRecDepth 100000 in
theorem reckon_b (h : Mach w a hb b o inp s) (u v : Bool) (ka kb kc : Nat) (op im : Int) (hka : ka < 16) (ho : op = 0) (hu : u = true) (hv : v = true) :
    Calls Tryd.prog 22 #[ptr a, ins 0 u v ka kb kc op im] w fun e w' => e = .returned unit ∧ Mach w' a hb b o inp (s.setBy ka (flW s.n s.z s.c s.v)) ∧ w.grownBy w' (some a) := by
  have HM := hd h
  have ia0 : (0 : Int) ≤ (ka : Int) := by omega
  have ia1 : (ka : Int) < 16 := by omega
  have HO := hd (And.intro ho (And.intro hu hv))
  clear h ho hu hv
  (go_enter Tryd.func22, Tryd.ntmps22; go_upto_region 1 with fail; have HBx := hd (bx_new w 0 u v ka kb kc op im); have HG := hd ((G.refl w).alloc #[Value.int IntKind.i64 0, Value.bool u, Value.bool v, Value.int IntKind.i64 ↑ka, Value.int IntKind.i64 ↑kb, Value.int IntKind.i64 ↑kc, Value.int IntKind.i64 op, Value.int IntKind.i64 im] 39); have nx : ¬ w.heap.size = a := (by have := HM.out.lt; omega); generalize w.alloc (Obj.cells #[Value.int IntKind.i64 0, Value.bool u, Value.bool v, Value.int IntKind.i64 ↑ka, Value.int IntKind.i64 ↑kb, Value.int IntKind.i64 ↑kc, Value.int IntKind.i64 op, Value.int IntKind.i64 im] 39) = W at HBx HG ⊢; generalize w.heap.size = X at HBx nx ⊢; have HMW := hd (HM.out.g HG.out); obtain ⟨b0, b1, b2, b3, b4, b5, b6, b7, _⟩ := HBx.out)
  have c17 := HMW.out.cn
  have c18 := HMW.out.cz
  have c19 := HMW.out.cc
  have c20 := HMW.out.cv
  obtain ⟨rfl, rfl, rfl⟩ := HO.out
  go_wp2
  go_region_with (first
    | (go_at_call 37; refine (flb_any _ _ _ _ _).mono ?_; rintro e w1 ⟨rfl, hg⟩; have HG1 := hd (G.trans (G.drew HG.out) hg); have HM1 := hd (HM.out.g HG1.out); have y1 := (HBx.out.g (G.trans (G.drew (G.refl _)) hg)).b3; clear hg)
    | (go_at_call 34; refine (setBy_any HM1.out _ hka _ (flW_bd _ _ _ _)).mono ?_; rintro e w2 ⟨rfl, hm, hg⟩; have HX2 := hd hm; have HH2 := hd hg; clear hm hg))
  all_goals go_wp2
  all_goals refine bodyPost_ret (results_none rfl _ _ _) rfl ?_
  all_goals exact ⟨rfl, HX2.out, grown_trans (grown_g HG1.out _) HH2.out⟩
end
end Go.Proofs.YtfdofleohichiaaDoor.Cpu
