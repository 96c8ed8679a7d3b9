/-
  What package cpu's inner functions do: setBy, operand, flagBits, waiting, next.
-/
import Derived.Test.YtfdofleohichiaaDoorCrep
import Derived.Deep.RegionHeld3
import Derived.StillTailTactics
namespace Go.Proofs.YtfdofleohichiaaDoor.Cpu
open Go.RowKit Go.Proofs.YtfdofleohichiaaDoor.Bits Go.Proofs.YtfdofleohichiaaDoor.Gw Go.Proofs.YtfdofleohichiaaDoor.Risc Go.Proofs.YtfdofleohichiaaDoor.Alu Go.Proofs.YtfdofleohichiaaDoor.Mem
set_option linter.unusedVariables false

theorem hd {p : Prop} (h : p) : Hid p := h
abbrev unit : Value := .tuple #[]
theorem grown_set2 (w : World) (b i j : Nat) (u v : Value) : w.grownBy ((w.setCell ⟨b, i, none⟩ u).setCell ⟨b, j, none⟩ v) (some b) := grown_trans (grown_set _ _ _ _) (grown_set _ _ _ _)
theorem grown_set3 (w : World) (b i j k : Nat) (u v x : Value) : w.grownBy (((w.setCell ⟨b, i, none⟩ u).setCell ⟨b, j, none⟩ v).setCell ⟨b, k, none⟩ x) (some b) := grown_trans (grown_set2 _ _ _ _ _ _) (grown_set _ _ _ _)
section
variable {w : World} {a hb b : Nat} {o : Value} {inp : ByteArray} {s : Ms}
theorem Mach.setBy3 (h : Mach w a hb b o inp s) {k : Nat} (hk : k < 16) {r : Int} (hr : W32 r) :
    Mach (((w.setCell ⟨a, k, none⟩ (wd r)).setCell ⟨a, 17, none⟩ (.bool (sgB r))).setCell ⟨a, 18, none⟩ (.bool (r == 0))) a hb b o inp (s.setBy k r) := by
  refine h.wrote (grown_set3 _ _ _ _ _ _ _ _) ?_ rfl rfl (h.ok.setBy k hr)
  rw [blk_set (blk_set (blk_set h.blk k (wd r)) 17 (.bool (sgB r))) 18 (.bool (r == 0)), ms_reg _ _ _ _ h.ok.r16 hk, ms_n _ _ _ _ (by simp [h.ok.r16]), ms_z _ _ _ _ (by simp [h.ok.r16])]
  rfl
theorem Mach.en1 (h : Mach w a hb b o inp s) {e : Int} (he : 1 ≤ e ∧ e ≤ 6) : Mach (w.setCell ⟨a, 26, none⟩ (.int .i64 e)) a hb b o inp { s with en := e } := by
  refine h.wrote (grown_set _ _ _ _) ?_ rfl rfl (h.ok.en he)
  rw [blk_set h.blk 26 (.int .i64 e), ms_en _ _ _ _ h.ok.r16]
theorem Mach.pc1 (h : Mach w a hb b o inp s) {p : Int} (h0 : 0 ≤ p) (h1 : p < 1073741824) : Mach (w.setCell ⟨a, 21, none⟩ (.int .i64 p)) a hb b o inp { s with pc := p } := by
  refine h.wrote (grown_set _ _ _ _) ?_ rfl rfl ⟨h.ok.r16, h.ok.rr, h.ok.h0, h0, h1, h.ok.xs1, h.ok.xr, h.ok.rd1, h.ok.in1, h.ok.out1, h.ok.outr, h.ok.en0, h.ok.tr0⟩
  rw [blk_set h.blk 21 (.int .i64 p), ms_pc _ _ _ _ h.ok.r16]
theorem Mach.rd1 (h : Mach w a hb b o inp s) {n : Nat} (h1 : n ≤ inp.size) : Mach (w.setCell ⟨a, 24, none⟩ (.int .i64 n)) a hb b o inp { s with rd := n } := by
  refine h.wrote (grown_set _ _ _ _) ?_ rfl rfl ⟨h.ok.r16, h.ok.rr, h.ok.h0, h.ok.pc0, h.ok.pc1, h.ok.xs1, h.ok.xr, h1, h.ok.in1, h.ok.out1, h.ok.outr, h.ok.en0, h.ok.tr0⟩
  rw [blk_set h.blk 24 (.int .i64 n), ms_rd _ _ _ _ h.ok.r16]
theorem Mach.entr (h : Mach w a hb b o inp s) {e t : Int} (he : 1 ≤ e ∧ e ≤ 6) (ht : -2147483648 ≤ t ∧ t < 2147483648) : Mach ((w.setCell ⟨a, 26, none⟩ (.int .i64 e)).setCell ⟨a, 27, none⟩ (.int .i64 t)) a hb b o inp { s with en := e, tr := t } := by
  refine h.wrote (grown_set2 _ _ _ _ _ _) ?_ rfl rfl ⟨h.ok.r16, h.ok.rr, h.ok.h0, h.ok.pc0, h.ok.pc1, h.ok.xs1, h.ok.xr, h.ok.rd1, h.ok.in1, h.ok.out1, h.ok.outr, he, ht⟩
  rw [blk_set (blk_set h.blk 26 (.int .i64 e)) 27 (.int .i64 t), ms_en _ _ _ _ h.ok.r16, ms_tr _ _ _ { s with en := e } h.ok.r16]

theorem setBy_any (h : Mach w a hb b o inp s) (k : Nat) (hk : k < 16) (r : Int) (hr : W32 r) :
    Calls Tryd.prog 34 #[ptr a, .int .i64 k, wd r] w fun e w' => e = .returned unit ∧ Mach w' a hb b o inp (s.setBy k r) ∧ w.grownBy w' (some a) := by
  have HM := hd (h.setBy3 hk hr)
  have c0 := h.reg hk
  have c1 := h.cn
  have c2 := h.cz
  have f0 := h.free k
  have f1 := h.free 17
  have f2 := h.free 18
  have n1 : ¬ k = 17 := by omega
  have n2 : ¬ k = 18 := by omega
  have E : Hid (sgB r = decide (wrap32 r < 0)) := hd rfl
  clear h
  go_enter Tryd.func34, Tryd.ntmps34
  go_wp2_with (go_at_call 53; refine (signed_any _ _).mono ?_; rintro e w' ⟨rfl, rfl⟩)
  go_end0
  refine ⟨rfl, ?_, grown_set3 _ _ _ _ _ _ _ _⟩
  have := HM.out
  rw [E.out] at this
  exact this

theorem opd_reg (h : Mach w a hb b o inp s) (u v : Bool) (x y : Int) (kc : Nat) (op im : Int) (hc : kc < 16) :
    Calls Tryd.prog 39 #[ptr a, ins 0 u v x y kc op im] w fun e w' => e = .returned (wd (at0 s.R kc)) ∧ ∃ p : By, w' = gr w p := by
  have hlt := h.lt
  have c0 := h.reg hc
  clear h
  go_enter Tryd.func39, Tryd.ntmps39
  go_wp2
  go_quiet (fail)
  go_wp2
  go_ret
  exact ⟨rfl, ((G.refl _).alloc _ _).drewN _⟩
theorem or_high (im : Int) (h0 : 0 ≤ im) (h1 : im ≤ 65535) : Go.bits .or .u32 4294901760 im = im + 4294901760 := by
  rw [u32_or 4294901760 im (by decide) (by decide) h0 (by omega)]
  obtain ⟨n, rfl⟩ := Int.eq_ofNat_of_zero_le h0
  have p16 : (2 : Nat) ^ 16 = 65536 := by decide
  have e := Bm.or_join 16 65535 n (by omega)
  have e2 : (65535 * 2 ^ 16 : Nat) = 4294901760 := by decide
  rw [e2, Nat.or_comm] at e
  show ((4294901760 ||| n : Nat) : Int) = _
  rw [e]; omega
theorem opd_im (h : Mach w a hb b o inp s) (u v : Bool) (x y z : Int) (op im : Int) (h0 : 0 ≤ im) (h1 : im ≤ 65535) :
    Calls Tryd.prog 39 #[ptr a, ins 1 u v x y z op im] w fun e w' => e = .returned (wd (if v = true then im + 4294901760 else im)) ∧ ∃ p : By, w' = gr w p := by
  have e1 : im % 4294967296 = im := by omega
  have e2 : Hid (Go.bits .or .u32 4294901760 im = im + 4294901760) := hd (or_high im h0 h1)
  clear h
  cases v
  · go_enter Tryd.func39, Tryd.ntmps39
    go_wp2_with (go_at_call 36; refine (word_any _ _).mono ?_; rw [e1]; rintro e w' ⟨rfl, rfl⟩)
    go_ret
    exact ⟨rfl, (G.refl _).alloc _ _⟩
  · go_enter Tryd.func39, Tryd.ntmps39
    go_wp2_with (go_at_call 36; refine (word_any _ _).mono ?_; rw [e1]; rintro e w' ⟨rfl, rfl⟩)
    go_ret
    exact ⟨ret_int (by rw [e2.out]), (G.refl _).alloc _ _⟩
theorem opd_any (h : Mach w a hb b o inp s) (f : Int) (u v : Bool) (x y : Int) (kc : Nat) (op im : Int) (hc : kc < 16) (hf : f = 0 ∨ f = 1) (hi : f = 1 → 0 ≤ im ∧ im ≤ 65535) :
    Calls Tryd.prog 39 #[ptr a, ins f u v x y kc op im] w fun e w' => e = .returned (wd (s.opd f v kc im)) ∧ ∃ p : By, w' = gr w p := by
  rcases hf with rfl | rfl
  · exact opd_reg h u v x y kc op im hc
  · exact opd_im h u v x y kc op im (hi rfl).1 (hi rfl).2
end
end Go.Proofs.YtfdofleohichiaaDoor.Cpu
