/-
  What package cpu's inner functions do: setBy, operand, flagBits, waiting, next.
  The flags as a word: what cpu.flagBits tells.
  What package cpu's waiting, next, put, load and store do.
  What package cpu's load, store and access do.
  What package cpu's access, target and jump do.
-/
import Derived.Test.YtfdofleohichiaaGreatDoorCrep
import Derived.Deep.RegionHeld3
import Derived.StillTailTactics
import Derived.Maps.AppendAt
namespace Go.Proofs.YtfdofleohichiaaGreatDoor.Cpu
open Go.RowKit Go.Proofs.YtfdofleohichiaaGreatDoor.Bits Go.Proofs.YtfdofleohichiaaGreatDoor.Gw Go.Proofs.YtfdofleohichiaaGreatDoor.Risc Go.Proofs.YtfdofleohichiaaGreatDoor.Alu Go.Proofs.YtfdofleohichiaaGreatDoor.Mem
set_option linter.unusedVariables false

theorem hd {p : Prop} (h : p) : Hid p := h
abbrev unit : Value := .tuple #[]
theorem grown_set2 (w : World) (b i j : Nat) (u v : Value) : w.grownBy ((w.setCell ⟨b, i, none⟩ u).setCell ⟨b, j, none⟩ v) (some b) := grown_trans (grown_set _ _ _ _) (grown_set _ _ _ _)
theorem grown_set3 (w : World) (b i j k : Nat) (u v x : Value) : w.grownBy (((w.setCell ⟨b, i, none⟩ u).setCell ⟨b, j, none⟩ v).setCell ⟨b, k, none⟩ x) (some b) := grown_trans (grown_set2 _ _ _ _ _ _) (grown_set _ _ _ _)
section
variable {w : World} {a hb b : Nat} {o : Value} {inp : ByteArray} {s : Ms}
theorem Mach.setBy3 (h : Mach w a hb b o inp s) {k : Nat} (hk : k < 16) {r : Int} (hr : W32 r) :
    Mach (((w.setCell ⟨a, k, none⟩ (wd r)).setCell ⟨a, 17, none⟩ (.bool (sgB r))).setCell ⟨a, 18, none⟩ (.bool (r == 0))) a hb b o inp (s.setBy k r) := by
  refine h.wrote (grown_set3 _ _ _ _ _ _ _ _) ?_ rfl rfl (h.ok.setBy k hr)
  rw [blk_set (blk_set (blk_set h.blk k (wd r)) 17 (.bool (sgB r))) 18 (.bool (r == 0)), ms_reg _ _ _ _ h.ok.r16 hk, ms_n _ _ _ _ (by simp [h.ok.r16]), ms_z _ _ _ _ (by simp [h.ok.r16])]
  rfl
theorem Mach.en1 (h : Mach w a hb b o inp s) {e : Int} (he : 1 ≤ e ∧ e ≤ 6) : Mach (w.setCell ⟨a, 26, none⟩ (.int .i64 e)) a hb b o inp { s with en := e } := by
  refine h.wrote (grown_set _ _ _ _) ?_ rfl rfl (h.ok.en he)
  rw [blk_set h.blk 26 (.int .i64 e), ms_en _ _ _ _ h.ok.r16]
theorem Mach.pc1 (h : Mach w a hb b o inp s) {p : Int} (h0 : 0 ≤ p) (h1 : p < 1073741824) : Mach (w.setCell ⟨a, 21, none⟩ (.int .i64 p)) a hb b o inp { s with pc := p } := by
  refine h.wrote (grown_set _ _ _ _) ?_ rfl rfl ⟨h.ok.r16, h.ok.rr, h.ok.h0, h0, h1, h.ok.xs1, h.ok.xr, h.ok.rd1, h.ok.in1, h.ok.out1, h.ok.outr, h.ok.en0, h.ok.tr0⟩
  rw [blk_set h.blk 21 (.int .i64 p), ms_pc _ _ _ _ h.ok.r16]
theorem Mach.rd1 (h : Mach w a hb b o inp s) {n : Nat} (h1 : n ≤ inp.size) : Mach (w.setCell ⟨a, 24, none⟩ (.int .i64 n)) a hb b o inp { s with rd := n } := by
  refine h.wrote (grown_set _ _ _ _) ?_ rfl rfl ⟨h.ok.r16, h.ok.rr, h.ok.h0, h.ok.pc0, h.ok.pc1, h.ok.xs1, h.ok.xr, h1, h.ok.in1, h.ok.out1, h.ok.outr, h.ok.en0, h.ok.tr0⟩
  rw [blk_set h.blk 24 (.int .i64 n), ms_rd _ _ _ _ h.ok.r16]
theorem Mach.entr (h : Mach w a hb b o inp s) {e t : Int} (he : 1 ≤ e ∧ e ≤ 6) (ht : -2147483648 ≤ t ∧ t < 2147483648) : Mach ((w.setCell ⟨a, 26, none⟩ (.int .i64 e)).setCell ⟨a, 27, none⟩ (.int .i64 t)) a hb b o inp { s with en := e, tr := t } := by
  refine h.wrote (grown_set2 _ _ _ _ _ _) ?_ rfl rfl ⟨h.ok.r16, h.ok.rr, h.ok.h0, h.ok.pc0, h.ok.pc1, h.ok.xs1, h.ok.xr, h.ok.rd1, h.ok.in1, h.ok.out1, h.ok.outr, he, ht⟩
  rw [blk_set (blk_set h.blk 26 (.int .i64 e)) 27 (.int .i64 t), ms_en _ _ _ _ h.ok.r16, ms_tr _ _ _ { s with en := e } h.ok.r16]

theorem setBy_any (h : Mach w a hb b o inp s) (k : Nat) (hk : k < 16) (r : Int) (hr : W32 r) :
    Calls Tryz.prog 76 #[ptr a, .int .i64 k, wd r] w fun e w' => e = .returned unit ∧ Mach w' a hb b o inp (s.setBy k r) ∧ w.grownBy w' (some a) := by
  have HM := hd (h.setBy3 hk hr)
  have c0 := h.reg hk
  have c1 := h.cn
  have c2 := h.cz
  have f0 := h.free k
  have f1 := h.free 17
  have f2 := h.free 18
  have n1 : ¬ k = 17 := by omega
  have n2 : ¬ k = 18 := by omega
  have E : Hid (sgB r = decide (wrap32 r < 0)) := hd rfl
  clear h
  go_enter Tryz.func76, Tryz.ntmps76
  go_wp2_with (go_at_call 119; refine (signed_any _ _).mono ?_; rintro e w' ⟨rfl, rfl⟩)
  go_end0
  refine ⟨rfl, ?_, grown_set3 _ _ _ _ _ _ _ _⟩
  have := HM.out
  rw [E.out] at this
  exact this

theorem opd_reg (h : Mach w a hb b o inp s) (u v : Bool) (x y : Int) (kc : Nat) (op im : Int) (hc : kc < 16) :
    Calls Tryz.prog 81 #[ptr a, ins 0 u v x y kc op im] w fun e w' => e = .returned (wd (at0 s.R kc)) ∧ ∃ p : By, w' = gr w p := by
  have hlt := h.lt
  have c0 := h.reg hc
  clear h
  go_enter Tryz.func81, Tryz.ntmps81
  go_wp2
  go_quiet (fail)
  go_wp2
  go_ret
  exact ⟨rfl, ((G.refl _).alloc _ _).drewN _⟩
theorem or_high (im : Int) (h0 : 0 ≤ im) (h1 : im ≤ 65535) : Go.bits .or .u32 4294901760 im = im + 4294901760 := by
  rw [u32_or 4294901760 im (by decide) (by decide) h0 (by omega)]
  obtain ⟨n, rfl⟩ := Int.eq_ofNat_of_zero_le h0
  have p16 : (2 : Nat) ^ 16 = 65536 := by decide
  have e := Bm.or_join 16 65535 n (by omega)
  have e2 : (65535 * 2 ^ 16 : Nat) = 4294901760 := by decide
  rw [e2, Nat.or_comm] at e
  show ((4294901760 ||| n : Nat) : Int) = _
  rw [e]; omega
theorem opd_im (h : Mach w a hb b o inp s) (u v : Bool) (x y z : Int) (op im : Int) (h0 : 0 ≤ im) (h1 : im ≤ 65535) :
    Calls Tryz.prog 81 #[ptr a, ins 1 u v x y z op im] w fun e w' => e = .returned (wd (if v = true then im + 4294901760 else im)) ∧ ∃ p : By, w' = gr w p := by
  have e1 : im % 4294967296 = im := by omega
  have e2 : Hid (Go.bits .or .u32 4294901760 im = im + 4294901760) := hd (or_high im h0 h1)
  clear h
  cases v
  · go_enter Tryz.func81, Tryz.ntmps81
    go_wp2_with (go_at_call 78; refine (word_any _ _).mono ?_; rw [e1]; rintro e w' ⟨rfl, rfl⟩)
    go_ret
    exact ⟨rfl, (G.refl _).alloc _ _⟩
  · go_enter Tryz.func81, Tryz.ntmps81
    go_wp2_with (go_at_call 78; refine (word_any _ _).mono ?_; rw [e1]; rintro e w' ⟨rfl, rfl⟩)
    go_ret
    exact ⟨ret_int (by rw [e2.out]), (G.refl _).alloc _ _⟩
theorem opd_any (h : Mach w a hb b o inp s) (f : Int) (u v : Bool) (x y : Int) (kc : Nat) (op im : Int) (hc : kc < 16) (hf : f = 0 ∨ f = 1) (hi : f = 1 → 0 ≤ im ∧ im ≤ 65535) :
    Calls Tryz.prog 81 #[ptr a, ins f u v x y kc op im] w fun e w' => e = .returned (wd (s.opd f v kc im)) ∧ ∃ p : By, w' = gr w p := by
  rcases hf with rfl | rfl
  · exact opd_reg h u v x y kc op im hc
  · exact opd_im h u v x y kc op im (hi rfl).1 (hi rfl).2
end
end Go.Proofs.YtfdofleohichiaaGreatDoor.Cpu
namespace Go.Proofs.YtfdofleohichiaaGreatDoor.Cpu
open Go.RowKit Go.Proofs.YtfdofleohichiaaGreatDoor.Bits Go.Proofs.YtfdofleohichiaaGreatDoor.Gw Go.Proofs.YtfdofleohichiaaGreatDoor.Risc Go.Proofs.YtfdofleohichiaaGreatDoor.Alu Go.Proofs.YtfdofleohichiaaGreatDoor.Mem

set_option maxHeartbeats 2000000 in
set_option maxRecDepth 100000 in
theorem flb_any (n z c v : Bool) (w : World) :
    Calls Tryz.prog 79 #[fl n z c v] w fun e w' => e = .returned (wd (flW n z c v)) ∧ ∃ p : By, w' = gr w p := by
  have q0 : putI 0 28 1 1 = 268435456 := by kernel_rfl
  have q1 : putI 0 29 1 1 = 536870912 := by kernel_rfl
  have q2 : putI 268435456 29 1 1 = 805306368 := by kernel_rfl
  have q3 : putI 0 30 1 1 = 1073741824 := by kernel_rfl
  have q4 : putI 268435456 30 1 1 = 1342177280 := by kernel_rfl
  have q5 : putI 536870912 30 1 1 = 1610612736 := by kernel_rfl
  have q6 : putI 805306368 30 1 1 = 1879048192 := by kernel_rfl
  have q7 : putI 0 31 1 1 = 2147483648 := by kernel_rfl
  have q8 : putI 268435456 31 1 1 = 2415919104 := by kernel_rfl
  have q9 : putI 536870912 31 1 1 = 2684354560 := by kernel_rfl
  have q10 : putI 805306368 31 1 1 = 2952790016 := by kernel_rfl
  have q11 : putI 1073741824 31 1 1 = 3221225472 := by kernel_rfl
  have q12 : putI 1342177280 31 1 1 = 3489660928 := by kernel_rfl
  have q13 : putI 1610612736 31 1 1 = 3758096384 := by kernel_rfl
  have q14 : putI 1879048192 31 1 1 = 4026531840 := by kernel_rfl
  have i0 : ∀ w, (Instr.index 175 (.agg #[.bool v, .bool c, .bool z, .bool n]) (.int .i64 0)).run Tryz.prog w = .ok (.bool v) w := fun _ => by kernel_rfl
  have i1 : ∀ w, (Instr.index 175 (.agg #[.bool v, .bool c, .bool z, .bool n]) (.int .i64 1)).run Tryz.prog w = .ok (.bool c) w := fun _ => by kernel_rfl
  have i2 : ∀ w, (Instr.index 175 (.agg #[.bool v, .bool c, .bool z, .bool n]) (.int .i64 2)).run Tryz.prog w = .ok (.bool z) w := fun _ => by kernel_rfl
  have i3 : ∀ w, (Instr.index 175 (.agg #[.bool v, .bool c, .bool z, .bool n]) (.int .i64 3)).run Tryz.prog w = .ok (.bool n) w := fun _ => by kernel_rfl
  unfold fl
  cases n <;> cases z <;> cases c <;> cases v
  all_goals
    go_enter Tryz.func79, Tryz.ntmps79
    go_wp2
    refine wp_loop_rounds 5 ?_
    (rw [rounds_succ]; go_wp2_with (go_at_call 122; refine (put_any _ _ _ _ _ (by decide) (by decide) (by decide) (by decide) (by decide)).mono ?_; rintro e w' ⟨rfl, rfl⟩))
    (rw [rounds_succ]; go_wp2_with (go_at_call 122; refine (put_any _ _ _ _ _ (by decide) (by decide) (by decide) (by decide) (by decide)).mono ?_; rintro e w' ⟨rfl, rfl⟩))
    (rw [rounds_succ]; go_wp2_with (go_at_call 122; refine (put_any _ _ _ _ _ (by decide) (by decide) (by decide) (by decide) (by decide)).mono ?_; rintro e w' ⟨rfl, rfl⟩))
    (rw [rounds_succ]; go_wp2_with (go_at_call 122; refine (put_any _ _ _ _ _ (by decide) (by decide) (by decide) (by decide) (by decide)).mono ?_; rintro e w' ⟨rfl, rfl⟩))
    rw [rounds_succ]
    go_wp2
    go_ret
    exact ⟨rfl, (G.refl _).alloc _ _⟩
end Go.Proofs.YtfdofleohichiaaGreatDoor.Cpu
namespace Go.Proofs.YtfdofleohichiaaGreatDoor.Cpu
open Go.RowKit Go.Proofs.YtfdofleohichiaaGreatDoor.Bits Go.Proofs.YtfdofleohichiaaGreatDoor.Gw Go.Proofs.YtfdofleohichiaaGreatDoor.Risc Go.Proofs.YtfdofleohichiaaGreatDoor.Alu Go.Proofs.YtfdofleohichiaaGreatDoor.Mem
set_option linter.unusedVariables false

/- What was put out lies where it lay, or in a block that is new. -/
def Nw (w : World) (o o' : Value) : Prop := ∀ k, o'.ownBlock = some k → o.ownBlock = some k ∨ w.heap.size ≤ k
theorem Nw.refl (w : World) (o : Value) : Nw w o o := fun _ h => .inl h
section
variable {w : World} {a hb b : Nat} {o : Value} {inp : ByteArray} {s : Ms}
theorem wait_any (h : Mach w a hb b o inp s) : Calls Tryz.prog 135 #[ptr a] w fun e w' => e = .returned (wd (if s.rd < inp.size then 1 else 0)) ∧ ∃ p : By, w' = gr w p := by
  have c1 := h.crd
  have c2 := h.cin
  clear h
  by_cases hlt : s.rd < inp.size
  · have i1 : (s.rd : Int) < (inp.size : Int) := by omega
    rw [if_pos hlt]
    go_enter Tryz.func135, Tryz.ntmps135
    go_wp2
    go_quiet (fail)
    go_wp2
    go_ret
    exact ⟨rfl, (G.refl _).drewN _⟩
  · have i1 : ¬ (s.rd : Int) < (inp.size : Int) := by omega
    rw [if_neg hlt]
    go_enter Tryz.func135, Tryz.ntmps135
    go_wp2
    go_quiet (fail)
    go_wp2
    go_ret
    exact ⟨rfl, (G.refl _).drewN _⟩
theorem in_at (inp : ByteArray) (k : Nat) (h : k < inp.size) : (inp[k].toNat : Int) = inAt inp k := by
  unfold inAt
  rw [List.getD_eq_getElem?_getD, List.getElem?_eq_getElem (by simpa using h)]
  rfl
theorem grown_of_drewN {w w' : World} {r : Option Nat} (d : Nat) (h : (w.drewN d).grownBy w' r) : w.grownBy w' r := ⟨h.os, h.tape, h.output, h.size, h.block⟩
theorem next_any (h : Mach w a hb b o inp s) : Calls Tryz.prog 134 #[ptr a] w fun e w' => e = .returned (wd (if s.rd < inp.size then inAt inp s.rd else 0)) ∧ Mach w' a hb b o inp { s with rd := if s.rd < inp.size then s.rd + 1 else s.rd } ∧ w.grownBy w' (some a) := by
  have c1 := h.crd
  have c2 := h.cin
  have f1 := h.free 24
  have hi := h.ok.in1
  by_cases hlt : s.rd < inp.size
  · have i1 : ¬ (inp.size : Int) ≤ (s.rd : Int) := by omega
    have hm := h.rd1 (n := s.rd + 1) (by omega)
    have HM := hd hm
    have HE := hd (in_at inp s.rd hlt)
    rw [if_pos hlt, if_pos hlt]
    clear h hm
    go_enter Tryz.func134, Tryz.ntmps134
    go_wp2
    go_quiet (fail)
    go_wp2
    go_quiet (fail)
    go_wp2
    go_ret
    exact ⟨ret_int (by rw [HE.out]; have := in_size inp s.rd; omega), (HM.out.g ⟨_, gr_drewN _ _⟩).g ⟨_, gr_drewN _ _⟩, grown_drewN (grown_drewN (grown_set _ _ _ _) _) _⟩
  · have i1 : (inp.size : Int) ≤ (s.rd : Int) := by omega
    have HM := hd h
    rw [if_neg hlt, if_neg hlt]
    clear h
    go_enter Tryz.func134, Tryz.ntmps134
    go_wp2
    go_quiet (fail)
    go_wp2
    go_ret
    exact ⟨rfl, HM.out.g ⟨_, gr_drewN _ _⟩, grown_drewN (World.grownBy.refl _ _) _⟩

set_option maxRecDepth 100000 in
theorem Tryz.info8 : (Tryz.prog.info? 5).map (fun i => (i.zero, i.size, i.bytes)) = some (some (.int .u8 0), 1, 1) := by kernel_rfl
theorem Mach.appended (h : Mach w a hb b o inp s) {y : Int} (hy : 0 ≤ y ∧ y < 256) (hl : s.out.length < 4096) {w1 : World} {v' : Value} {T : TypeId} (hgrow : (w.alloc (.cells #[b8 y] T)).grownBy w1 o.ownBlock)
    (hown : w1.ownsRow 21 5 1 v' (s.out.length + 1) (s.out.map b8 ++ [b8 y])) (hat : v'.ownBlock = o.ownBlock ∨ v'.ownBlock = some (w.heap.size + 1)) :
    Mach (w1.setCell ⟨a, 25, none⟩ v') a hb b v' inp { s with out := s.out ++ [y] } ∧ Chg (fp a b o) w (w1.setCell ⟨a, 25, none⟩ v') ∧ Nw w o v' := by
  have h1 : Chg (obl o) w w1 := Chg.trans0 (Chg.still (World.grownBy_alloc _ _ _)) (Chg.by hgrow (fun k hk => obl_mem.2 hk))
  have h2 : Chg [a] w1 (w1.setCell ⟨a, 25, none⟩ v') := Chg.one (grown_set _ _ _ _) (by simp)
  have na : a ∉ obl o := fun e => h.ne_ao (obl_mem.1 e) rfl
  have nh : hb ∉ obl o := fun e => h.ne_ho (obl_mem.1 e) rfl
  have nb : b ∉ obl o := fun e => h.ne_bo (obl_mem.1 e) rfl
  have hblk : w1.heap[a]? = some (.cells (mcells hb o inp s).toArray 70 (0, 0)) := by rw [h1.block a h.lt na]; exact h.blk
  obtain ⟨c, hm⟩ := h.mem
  refine ⟨⟨?_, ⟨c, ?_⟩, ?_, ?_, ?_, h.lo⟩, ?_, ?_⟩
  · rw [blk_set hblk 25 v', ms_out _ _ _ _ h.ok.r16]; rfl
  · exact Mm.chg (Mm.chg hm h1 nh nb) h2 (by simp [h.ne_ah.symm]) (by simp [h.ne_ab.symm])
  · have := own_chg hown h2 (fun k hk => by
      obtain ⟨cur, hc⟩ := row_blk hown hk
      have := blk_ne hblk hc (by decide)
      simp [this.symm])
    simpa using this
  · exact laid_chg (laid_chg h.laid h1 (fun k hk => (h.lto (obl_mem.1 hk)).1)) h2 (by simp [h.lo.1])
  · have := h.ok.put hy
    unfold Ms.put at this
    rwa [if_neg (by omega)] at this
  · refine (h1.mono (F' := fp a b o) (fun j hj => by simp [fp, hj])).trans h2 (fun j hj => ?_)
    simp at hj; subst hj; exact .inl (by simp [fp])
  · intro k hk
    rcases hat with e | e
    · rw [e] at hk; exact .inl hk
    · rw [e] at hk; cases hk; exact .inr (by omega)
theorem put_full (h : Mach w a hb b o inp s) (y : Int) (hf : 4096 ≤ s.out.length) : Calls Tryz.prog 131 #[ptr a, b8 y] w fun e w' => e = .returned unit ∧ Mach w' a hb b o inp { s with en := 6 } ∧ w.grownBy w' (some a) := by
  have HM := hd (h.en1 (e := 6) (by decide))
  have c1 := h.cout
  have c2 := h.cen
  have f2 := h.free 26
  have hmx := h.ok.out1
  have ho := h.out.2
  obtain ⟨n, hn⟩ : ∃ n, s.out.length = n := ⟨_, rfl⟩
  rw [hn] at ho hf hmx
  clear h hn
  rcases ho with ⟨rfl, h0⟩ | ⟨g, cap, cur, rfl, _⟩
  · omega
  · have i1 : (4096 : Int) ≤ (n : Int) := by omega
    clear hf hmx
    go_enter Tryz.func131, Tryz.ntmps131
    go_wp2
    refine bodyPost_ret (results_none rfl _ _ _) rfl ?_
    exact ⟨rfl, HM.out, grown_set _ _ _ _⟩
set_option maxHeartbeats 1000000 in
set_option maxRecDepth 100000 in
theorem put_room (h : Mach w a hb b o inp s) (y : Int) (hy : 0 ≤ y ∧ y < 256) (hf : s.out.length < 4096) :
    Calls Tryz.prog 131 #[ptr a, b8 y] w fun e w' => e = .returned unit ∧ ∃ o', Mach w' a hb b o' inp { s with out := s.out ++ [y] } ∧ Chg (fp a b o) w w' ∧ Nw w o o' := by
  obtain ⟨i0, hi, hz0, hz1, hz2⟩ := info_parts Tryz.info8
  have HM := hd h
  have c1 := h.cout
  have f1 := h.free 25
  have hlt := h.lt
  have hown := h.out
  have hao : ∀ k, o.ownBlock = some k → a ≠ k := fun k hk => h.ne_ao hk
  have h11 : 21 ≤ w.heap.size := h.laid.size
  obtain ⟨n, hn⟩ : ∃ n, s.out.length = n := ⟨_, rfl⟩
  have HN := hd hn
  rw [hn] at hf hown
  obtain ⟨m, cp, ho⟩ : ∃ (ao : Option Addr) (cp : Nat), o = .slice ao n cp := by
    rcases hown.2 with ⟨ho, h0⟩ | ⟨g, cap, cur, ho, _⟩
    · exact ⟨none, 0, by rw [ho, h0]⟩
    · exact ⟨_, _, ho⟩
  clear h hn
  subst ho
  have HO := hd (hown.alloc (.cells #[b8 y] 5))
  have i1 : ¬ (4096 : Int) ≤ (n : Int) := by omega
  have HF := hd hf
  have H11 := hd h11
  clear hown hf h11
  go_enter Tryz.func131, Tryz.ntmps131
  go_wp2_with (at_builtin; refine wpList_append_own_at _ rfl _ _ 50 rfl 21 5 i0 (.int .u8 0) 1 1 Tryz.underlying50 hi hz0 hz1 hz2 rfl (by decide) _ _ _ rfl HO.out ⟨w.heap.size, 0, none⟩ 1 1 [b8 y] rfl rfl (cell_one_new _ _ _) ?c2 ?c3 ?c4 ?c5 ?_)
  case c2 => first | rfl | (intro u hu; simp at hu; subst hu; rfl)
  case c3 => unfold maxLen; omega
  case c4 => omega
  case c5 => have := H11.out; simp; omega
  intro v' w1 hown' hgrow _ hat
  have HA := hd (HM.out.appended hy (by rw [HN.out]; exact HF.out) hgrow (by rw [HN.out]; exact hown') (by simpa using hat))
  have hne : some a ≠ Value.ownBlock (.slice m n cp) := fun e => hao a e.symm rfl
  have c2 : w1.cell? ⟨a, 25, none⟩ = some (.slice m n cp) := hgrow.cell (a := ⟨a, 25, none⟩) ((World.grownBy_alloc w (.cells #[b8 y] 5) none).cell (a := ⟨a, 25, none⟩) c1 (by simp)) hne
  have f2 : w1.frozen? ⟨a, 25, none⟩ = false := by
    rw [World.frozen?_of_block (w := w.alloc (.cells #[b8 y] 5)) (hgrow.block a (by simp; omega) hne), World.frozen?_of_block (w := w) ((World.grownBy_alloc w (.cells #[b8 y] 5) none).block a hlt (by simp))]; exact f1
  obtain ⟨g', cap', rfl⟩ : ∃ g' cap', v' = .slice (some ⟨g', 0, none⟩) (n + 1) cap' := by
    rcases hown'.2 with ⟨_, h0⟩ | ⟨g', cap', cur', e, _⟩
    · omega
    · exact ⟨g', cap', e⟩
  clear hown' hgrow hat HO hne hao c1 f1 i1 hlt HM
  go_wp2
  go_end0
  exact ⟨rfl, _, HA.out⟩
theorem cput_any (h : Mach w a hb b o inp s) (y : Int) (hy : 0 ≤ y ∧ y < 256) :
    Calls Tryz.prog 131 #[ptr a, b8 y] w fun e w' => e = .returned unit ∧ ∃ o', Mach w' a hb b o' inp (s.put y) ∧ Chg (fp a b o) w w' ∧ Nw w o o' := by
  unfold Ms.put
  by_cases hf : 4096 ≤ s.out.length
  · rw [if_pos hf]
    exact (put_full h y hf).mono fun e w' ⟨he, hm, hg⟩ => ⟨he, o, hm, Chg.one hg (by simp [fp]), Nw.refl _ _⟩
  · rw [if_neg hf]
    exact put_room h y hy (by omega)
end
end Go.Proofs.YtfdofleohichiaaGreatDoor.Cpu
namespace Go.Proofs.YtfdofleohichiaaGreatDoor.Cpu
open Go.RowKit Go.Proofs.YtfdofleohichiaaGreatDoor.Bits Go.Proofs.YtfdofleohichiaaGreatDoor.Gw Go.Proofs.YtfdofleohichiaaGreatDoor.Risc Go.Proofs.YtfdofleohichiaaGreatDoor.Alu Go.Proofs.YtfdofleohichiaaGreatDoor.Mem
set_option linter.unusedVariables false

section
variable {w : World} {a hb b : Nat} {o : Value} {inp : ByteArray} {s : Ms}
theorem ret_wb {x y : Int} {p q : Bool} (h : x = y) (i : p = q) : Ending.returned (.tuple #[wd x, .bool p]) = .returned (.tuple #[wd y, .bool q]) := by rw [h, i]
theorem Mach.same (h : Mach w a hb b o inp s) {s' : Ms} (e : s' = s) : Mach w a hb b o inp s' := by rw [e]; exact h
theorem ldR_no {p : Int} (h : ¬ p = 4294967240) : ({ s with rd := ldR inp s p } : Ms) = s := by simp [ldR, h]
set_option maxHeartbeats 1000000 in
theorem cload_any (h : Mach w a hb b o inp s) (p : Int) (hp : W32 p) (v : Bool) :
    Calls Tryz.prog 83 #[ptr a, wd p, .bool v] w fun e w' => e = .returned (.tuple #[wd (ldV inp s p v), .bool (ldB s p v)]) ∧ Mach w' a hb b o inp { s with rd := ldR inp s p } ∧ w.grownBy w' (some a) := by
  have HM := hd h
  have c1 := h.cmem
  have HO := hd h.ob
  clear h
  by_cases h0 : p = 4294967240
  · subst h0
    obtain ⟨X, hX⟩ : ∃ X, (if s.rd < inp.size then inAt inp s.rd else 0) = X := ⟨_, rfl⟩
    obtain ⟨Y, hY⟩ : ∃ Y, (if s.rd < inp.size then s.rd + 1 else s.rd) = Y := ⟨_, rfl⟩
    have HX := hd hX
    have HY := hd hY
    clear hX hY
    go_enter Tryz.func83, Tryz.ntmps83
    go_wp2_with (go_at_call 134; refine (next_any HM.out).mono ?_; rw [HX.out, HY.out]; rintro e w' ⟨rfl, hm, hg⟩; have HN := hd (And.intro hm hg); clear hm hg)
    go_ret2
    refine ⟨ret_wb (by rw [← HX.out]; simp [ldV]) (by simp [ldB]), ?_, HN.out.2⟩
    have := HN.out.1
    rw [← HY.out] at this
    simpa [ldR] using this
  have e0 : (p == 4294967240) = false := by simpa using h0
  by_cases h1 : p = 4294967244
  · subst h1
    obtain ⟨X, hX⟩ : ∃ X : Int, (if s.rd < inp.size then 1 else 0) = X := ⟨_, rfl⟩
    have HX := hd hX
    clear hX
    go_enter Tryz.func83, Tryz.ntmps83
    go_wp2_with (go_at_call 135; refine (wait_any HM.out).mono ?_; rw [HX.out]; rintro e w' ⟨rfl, hg⟩; have HN := hd hg; clear hg)
    go_ret2
    exact ⟨ret_wb (by rw [← HX.out]; simp [ldV]) (by simp [ldB]), (HM.out.g HN.out).same (ldR_no h0), grown_g HN.out _⟩
  have e1 : (p == 4294967244) = false := by simpa using h1
  have HR : Hid (({ s with rd := ldR inp s p } : Ms) = s) := hd (ldR_no h0)
  have HV : Hid (ldV inp s p v = if v = true then byI s.xs p else ldI s.xs p) := hd (by simp [ldV, h0, h1])
  have HB : Hid (ldB s p v = if v = true then thB s.xs p else beB s.xs p) := hd (by simp [ldB, h0, h1])
  obtain ⟨p0, p1⟩ := hp
  clear h0 h1
  cases v
  · go_enter Tryz.func83, Tryz.ntmps83
    go_wp2_with (go_at_call 45; refine (load_ob HO.out _ p0 p1).mono ?_; rintro e w' ⟨rfl, rfl⟩)
    go_ret2
    exact ⟨ret_wb HV.out.symm HB.out.symm, HM.out.same HR.out, World.grownBy.refl _ _⟩
  · go_enter Tryz.func83, Tryz.ntmps83
    go_wp2_with (go_at_call 136; refine (byte_ob HO.out _ p0 p1).mono ?_; rintro e w' ⟨rfl, d, rfl⟩)
    go_ret2
    exact ⟨ret_wb HV.out.symm HB.out.symm, (HM.out.g ⟨_, gr_drewN _ _⟩).same HR.out, grown_drewN (World.grownBy.refl _ _) _⟩
/- The memory's row was written. -/
theorem Mach.memset (h : Mach w a hb b o inp s) {w' : World} {ys : List Int} (hg : w.grownBy w' (some b)) (ho : Ob 98 w' (ptr hb) b ys) (hl : ys.length ≤ 65536) (hr : inR ys) : Mach w' a hb b o inp { s with xs := ys } := by
  have hc : Chg [b] w w' := Chg.one hg (by simp)
  refine ⟨?_, ?_, ?_, laid_chg h.laid hc (by simp [h.lo.2.2]), h.ok.mem hl hr, h.lo⟩
  · rw [hc.block a h.lt (by simp [h.ne_ab])]; exact h.blk
  · rcases ho with ⟨e, _⟩ | ⟨a', c, e, hm⟩
    · cases e
    · cases e; exact ⟨c, hm⟩
  · exact own_chg h.out hc (fun k hk => by simp [(h.ne_bo hk).symm])
theorem stL_no {xs : List Int} {p y : Int} (h : beB xs p = false) : stL xs p y = xs := by simp [stL, h]
theorem pbL_no {xs : List Int} {p y : Int} (h : thB xs p = false) : pbL xs p y = xs := by simp [pbL, h]
theorem Chg.two {F : List Nat} {w w1 w2 : World} {x y : Nat} (h : w.grownBy w1 (some x)) (k : w1.grownBy w2 (some y)) (hx : x ∈ F) (hy : y ∈ F) : Chg F w w2 := Chg.trans0 (Chg.one h hx) (Chg.one k hy)
set_option maxHeartbeats 1000000 in
theorem cstore_any (h : Mach w a hb b o inp s) (p y : Int) (hp : W32 p) (hy : W32 y) (v : Bool) : Calls Tryz.prog 82 #[ptr a, wd p, wd y, .bool v] w fun e w' => e = .returned unit ∧ ∃ o', Mach w' a hb b o' inp (s.store p y v) ∧ Chg (fp a b o) w w' ∧ Nw w o o' := by
  have HM := hd h
  have c1 := h.cmem
  have c2 := h.cen
  have c3 := h.ctr
  have f2 := h.free 26
  have f3 := h.free 27
  have HO := hd h.ob
  clear h
  obtain ⟨p0, p1⟩ := hp
  have HY := hd hy
  obtain ⟨y0, y1⟩ := hy
  by_cases h0 : p = 4294967240
  · subst h0
    have hs : s.store 4294967240 y v = s.put (y % 256) := by simp [Ms.store]
    rw [hs]
    clear hs
    have hb : 0 ≤ y % 256 ∧ y % 256 < 256 := by omega
    go_enter Tryz.func82, Tryz.ntmps82
    go_wp2_with (go_at_call 131; refine (cput_any HM.out _ hb).mono ?_; rintro e w' ⟨rfl, hm⟩; have HN := hd hm; clear hm)
    go_end0
    exact ⟨rfl, HN.out⟩
  have e0 : (p == 4294967240) = false := by simpa using h0
  by_cases h1 : p = 4294967236
  · subst h1
    have hs : s.store 4294967236 y v = { s with en := 2, tr := wrap32 y } := by simp [Ms.store]
    rw [hs]
    clear hs
    have HT := hd (HM.out.entr (e := 2) (by decide) (wrap32_lt y))
    go_enter Tryz.func82, Tryz.ntmps82
    go_wp2_with (go_at_call 119; refine (signed_any _ _).mono ?_; rintro e w' ⟨rfl, rfl⟩)
    go_end0
    exact ⟨rfl, o, HT.out, Chg.one (grown_set2 _ _ _ _ _ _) (by simp [fp]), Nw.refl _ _⟩
  have e1 : (p == 4294967236) = false := by simpa using h1
  by_cases h2 : p = 4294967232
  · subst h2
    have hs : s.store 4294967232 y v = { s with en := 1 } := by simp [Ms.store]
    rw [hs]
    clear hs
    have HT := hd (HM.out.en1 (e := 1) (by decide))
    go_enter Tryz.func82, Tryz.ntmps82
    go_wp2
    go_end0
    exact ⟨rfl, o, HT.out, Chg.one (grown_set _ _ _ _) (by simp [fp]), Nw.refl _ _⟩
  have e2 : (p == 4294967232) = false := by simpa using h2
  cases v
  · have HS : Hid (s.store p y false = if beB s.xs p = true then { s with xs := stL s.xs p y } else { s with en := 5 }) := hd (by simp [Ms.store, h0, h1, h2])
    clear h0 h1 h2
    have hl := HM.out.ok.xs1
    cases hbb : beB s.xs p
    · have HB := hd hbb
      rw [HS.out, HB.out]
      clear hl hbb
      go_enter Tryz.func82, Tryz.ntmps82
      go_wp2_with (go_at_call 133; refine (store_ob HO.out _ _ p0 p1 y0 y1).mono ?_; rw [HB.out, stL_no HB.out]; rintro e w' ⟨rfl, hg, ho⟩; have hm := (HM.out.memset hg ho HM.out.ok.xs1 HM.out.ok.xr); have c4 := hm.cen; have f4 := hm.free 26; have HX := hd (hm.en1 (e := 5) (by decide)); have HG := hd hg; clear hm hg ho)
      go_end0
      exact ⟨rfl, o, HX.out, Chg.two HG.out (grown_set _ _ _ _) (by simp [fp]) (by simp [fp]), Nw.refl _ _⟩
    · have HB := hd hbb
      rw [HS.out, HB.out]
      clear hl hbb
      go_enter Tryz.func82, Tryz.ntmps82
      go_wp2_with (go_at_call 133; refine (store_ob HO.out _ _ p0 p1 y0 y1).mono ?_; rw [HB.out]; rintro e w' ⟨rfl, hg, ho⟩; have HX := hd (HM.out.memset hg ho (by rw [c_len_st]; exact HM.out.ok.xs1) (stL_r HM.out.ok.xr p HY.out)); have HG := hd hg; clear hg ho)
      go_end0
      exact ⟨rfl, o, HX.out, Chg.one HG.out (by simp [fp]), Nw.refl _ _⟩
  · have HS : Hid (s.store p y true = if thB s.xs p = true then { s with xs := pbL s.xs p y } else { s with en := 5 }) := hd (by simp [Ms.store, h0, h1, h2])
    clear h0 h1 h2
    have hl := HM.out.ok.xs1
    cases hbb : thB s.xs p
    · have HB := hd hbb
      rw [HS.out, HB.out]
      clear hl hbb
      go_enter Tryz.func82, Tryz.ntmps82
      go_wp2_with (go_at_call 132; refine (putb_ob HO.out _ _ p0 p1 y0 y1).mono ?_; rw [HB.out, pbL_no HB.out]; rintro e w' ⟨rfl, hg, ho⟩; have hm := (HM.out.memset hg ho HM.out.ok.xs1 HM.out.ok.xr); have c4 := hm.cen; have f4 := hm.free 26; have HX := hd (hm.en1 (e := 5) (by decide)); have HG := hd hg; clear hm hg ho)
      go_end0
      exact ⟨rfl, o, HX.out, Chg.two HG.out (grown_set _ _ _ _) (by simp [fp]) (by simp [fp]), Nw.refl _ _⟩
    · have HB := hd hbb
      rw [HS.out, HB.out]
      clear hl hbb
      go_enter Tryz.func82, Tryz.ntmps82
      go_wp2_with (go_at_call 132; refine (putb_ob HO.out _ _ p0 p1 y0 y1).mono ?_; rw [HB.out]; rintro e w' ⟨rfl, hg, ho⟩; have HX := hd (HM.out.memset hg ho (by rw [c_len_pb]; exact HM.out.ok.xs1) (pbL_r HM.out.ok.xr p y)); have HG := hd hg; clear hg ho)
      go_end0
      exact ⟨rfl, o, HX.out, Chg.one HG.out (by simp [fp]), Nw.refl _ _⟩
end
end Go.Proofs.YtfdofleohichiaaGreatDoor.Cpu
namespace Go.Proofs.YtfdofleohichiaaGreatDoor.Cpu
open Go.RowKit Go.Proofs.YtfdofleohichiaaGreatDoor.Bits Go.Proofs.YtfdofleohichiaaGreatDoor.Gw Go.Proofs.YtfdofleohichiaaGreatDoor.Risc Go.Proofs.YtfdofleohichiaaGreatDoor.Alu Go.Proofs.YtfdofleohichiaaGreatDoor.Mem
set_option linter.unusedVariables false

theorem Nw.back {w W : World} {o o' : Value} (h : Nw W o o') (hs : w.heap.size ≤ W.heap.size) : Nw w o o' := fun k hk => by
  rcases h k hk with e | e
  · exact .inl e
  · exact .inr (by omega)
section
variable {w : World} {a hb b : Nat} {o : Value} {inp : ByteArray} {s : Ms}
theorem pl_eq {X im P : Int} (h : (X + im) % 4294967296 = P) : (X + im % 4294967296) % 4294967296 = P := by omega
/- From a world that has grown from w. -/
theorem from_g {W w' : World} {o' : Value} {s' : Ms} (g : G w W) (h : Mach w' a hb b o' inp s' ∧ Chg (fp a b o) W w' ∧ Nw W o o') : Mach w' a hb b o' inp s' ∧ Chg (fp a b o) w w' ∧ Nw w o o' :=
  ⟨h.1, Chg.trans0 (Chg.g g) h.2.1, h.2.2.back g.size⟩
set_option maxHeartbeats 1000000 in
set_option maxRecDepth 100000 in
theorem access_store (h : Mach w a hb b o inp s) (v : Bool) (ka kb : Nat) (x op im : Int) (hka : ka < 16) (hkb : kb < 16) :
    Calls Tryz.prog 47 #[ptr a, ins 2 true v ka kb x op im] w fun e w' => e = .returned unit ∧ ∃ o', Mach w' a hb b o' inp (s.access inp true v ka kb im) ∧ Chg (fp a b o) w w' ∧ Nw w o o' := by
  have HM := hd h
  have hlt := h.lt
  have c1 := h.reg hkb
  have c2 := h.reg hka
  obtain ⟨X, hX⟩ : ∃ X, at0 s.R kb = X := ⟨_, rfl⟩
  obtain ⟨Y, hY⟩ : ∃ Y, at0 s.R ka = Y := ⟨_, rfl⟩
  obtain ⟨P, hP⟩ : ∃ P, (X + im) % 4294967296 = P := ⟨_, rfl⟩
  have HS : Hid (s.access inp true v ka kb im = s.store P Y v) := hd (by simp [Ms.access, plI, hX, hY, hP])
  have HP : Hid (W32 P) := hd (by rw [← hP]; exact W32.mod _)
  have HY : Hid (W32 Y) := hd (by rw [← hY]; exact h.ok.reg ka)
  have hP' := pl_eq hP
  rw [hX] at c1
  rw [hY] at c2
  rw [HS.out]
  clear h hX hY hP
  go_enter Tryz.func47, Tryz.ntmps47
  go_wp2
  go_quiet ((go_at_call 78; exact Calls.quiet_of_same (word_any _ _)))
  go_wp2
  have g1 : G w ((w.alloc (Obj.cells #[Value.int IntKind.i64 2, Value.bool true, Value.bool v, Value.int IntKind.i64 ↑ka, Value.int IntKind.i64 ↑kb, Value.int IntKind.i64 x, Value.int IntKind.i64 op, Value.int IntKind.i64 im] 72)).drewN nq) := ((G.refl w).alloc _ _).drewN _
  have b2 : ((w.alloc (Obj.cells #[Value.int IntKind.i64 2, Value.bool true, Value.bool v, Value.int IntKind.i64 ↑ka, Value.int IntKind.i64 ↑kb, Value.int IntKind.i64 x, Value.int IntKind.i64 op, Value.int IntKind.i64 im] 72)).drewN nq).cell? ⟨w.heap.size, 2, none⟩ = some (.bool v) := by simp
  have b3 : ((w.alloc (Obj.cells #[Value.int IntKind.i64 2, Value.bool true, Value.bool v, Value.int IntKind.i64 ↑ka, Value.int IntKind.i64 ↑kb, Value.int IntKind.i64 x, Value.int IntKind.i64 op, Value.int IntKind.i64 im] 72)).drewN nq).cell? ⟨w.heap.size, 3, none⟩ = some (.int .i64 ka) := by simp
  replace c2 := (g1.cell (a := ⟨a, ka, none⟩) hlt).trans c2
  generalize (w.alloc (Obj.cells #[Value.int IntKind.i64 2, Value.bool true, Value.bool v, Value.int IntKind.i64 ↑ka, Value.int IntKind.i64 ↑kb, Value.int IntKind.i64 x, Value.int IntKind.i64 op, Value.int IntKind.i64 im] 72)).drewN nq = W at g1 b2 b3 c2 ⊢
  have HG := hd g1
  clear g1
  have ia0 : (0 : Int) ≤ (ka : Int) := by omega
  have ia1 : (ka : Int) < 16 := by omega
  refine region_tail 11 (by kernel_rfl) (by kernel_rfl) ?_
  simp only [List.take_succ_cons, List.take_zero, List.drop_succ_cons, List.drop_zero]
  repeat (first | still_step)
  refine wpStill_nil ?_
  go_wp2_with (go_at_call 82; refine (cstore_any (HM.out.g HG.out.drew) _ _ HP.out HY.out v).mono ?_; rintro e w' ⟨rfl, o', hm⟩; have HN := hd (from_g HG.out.drew hm); clear hm)
  refine bodyPost_ret (results_none rfl _ _ _) rfl ?_
  exact ⟨rfl, _, HN.out⟩

theorem ldR_of_no {p : Int} {v : Bool} (h : ldB s p v = false) : ldR inp s p = s.rd := by
  unfold ldR
  by_cases e : p = 4294967240
  · simp [ldB, e] at h
  · rw [if_neg (fun k => e k.1)]
set_option maxHeartbeats 1000000 in
set_option maxRecDepth 100000 in
theorem access_load (h : Mach w a hb b o inp s) (v : Bool) (ka kb : Nat) (x op im : Int) (hka : ka < 16) (hkb : kb < 16) :
    Calls Tryz.prog 47 #[ptr a, ins 2 false v ka kb x op im] w fun e w' => e = .returned unit ∧ Mach w' a hb b o inp (s.access inp false v ka kb im) ∧ w.grownBy w' (some a) := by
  have HM := hd h
  have hlt := h.lt
  have c1 := h.reg hkb
  obtain ⟨X, hX⟩ : ∃ X, at0 s.R kb = X := ⟨_, rfl⟩
  obtain ⟨P, hP⟩ : ∃ P, (X + im) % 4294967296 = P := ⟨_, rfl⟩
  have HS : Hid (s.access inp false v ka kb im = s.load inp ka P v) := hd (by simp [Ms.access, plI, hX, hP])
  have HP : Hid (W32 P) := hd (by rw [← hP]; exact W32.mod _)
  have hP' := pl_eq hP
  obtain ⟨V, hV⟩ : ∃ V, ldV inp s P v = V := ⟨_, rfl⟩
  have HV := hd hV
  have HW : Hid (W32 V) := hd (by rw [← hV]; exact ldV_bd h.ok P v)
  rw [hX] at c1
  rw [HS.out]
  clear h hX hP hV
  cases hB : ldB s P v
  all_goals
    have HB := hd hB
    have HL : Hid (s.load inp ka P v = _) := hd (by unfold Ms.load; rw [hB, HV.out])
    rw [HL.out]
    clear hB
    go_enter Tryz.func47, Tryz.ntmps47
    go_wp2
    go_quiet ((go_at_call 78; exact Calls.quiet_of_same (word_any _ _)))
    go_upto_region 4 with fail
    have g1 : G w ((w.alloc (Obj.cells #[Value.int IntKind.i64 2, Value.bool false, Value.bool v, Value.int IntKind.i64 ↑ka, Value.int IntKind.i64 ↑kb, Value.int IntKind.i64 x, Value.int IntKind.i64 op, Value.int IntKind.i64 im] 72)).drewN nq) := ((G.refl w).alloc _ _).drewN _
    have b2 : ((w.alloc (Obj.cells #[Value.int IntKind.i64 2, Value.bool false, Value.bool v, Value.int IntKind.i64 ↑ka, Value.int IntKind.i64 ↑kb, Value.int IntKind.i64 x, Value.int IntKind.i64 op, Value.int IntKind.i64 im] 72)).drewN nq).cell? ⟨w.heap.size, 2, none⟩ = some (.bool v) := by simp
    have b3 : ((w.alloc (Obj.cells #[Value.int IntKind.i64 2, Value.bool false, Value.bool v, Value.int IntKind.i64 ↑ka, Value.int IntKind.i64 ↑kb, Value.int IntKind.i64 x, Value.int IntKind.i64 op, Value.int IntKind.i64 im] 72)).drewN nq).cell? ⟨w.heap.size, 3, none⟩ = some (.int .i64 ka) := by simp
    generalize (w.alloc (Obj.cells #[Value.int IntKind.i64 2, Value.bool false, Value.bool v, Value.int IntKind.i64 ↑ka, Value.int IntKind.i64 ↑kb, Value.int IntKind.i64 x, Value.int IntKind.i64 op, Value.int IntKind.i64 im] 72)).drewN nq = W at g1 b2 b3 ⊢
    have HG := hd g1
    have nx : some w.heap.size ≠ some a := by simp; omega
    clear g1
  · go_wp2_with (go_at_call 83; refine (cload_any (HM.out.g HG.out) _ HP.out v).mono ?_; rw [HV.out, HB.out]; rintro e w' ⟨rfl, hm, hg⟩; have c4 := hm.cen; have f4 := hm.free 26; have HX := hd (hm.en1 (e := 5) (by decide)); have HH := hd hg; clear hm hg)
    refine bodyPost_ret (results_none rfl _ _ _) rfl ?_
    exact ⟨rfl, HX.out.same (by rw [ldR_of_no HB.out]), grown_trans (grown_trans (grown_g HG.out _) HH.out) (grown_set _ _ _ _)⟩
  · go_wp2_with (first
      | (go_at_call 83; refine (cload_any (HM.out.g HG.out) _ HP.out v).mono ?_; rw [HV.out, HB.out]; rintro e w' ⟨rfl, hm, hg⟩; replace b3 := hg.cell b3 nx; have HX := hd hm; have HH := hd hg; clear hm hg)
      | (go_at_call 76; refine (setBy_any HX.out _ hka _ HW.out).mono ?_; rintro e w2 ⟨rfl, hm, hg⟩; have HX2 := hd hm; have HH2 := hd hg; clear hm hg))
    go_end0
    exact ⟨rfl, HX2.out, grown_trans (grown_trans (grown_g HG.out _) HH.out) HH2.out⟩
theorem access_any (h : Mach w a hb b o inp s) (u v : Bool) (ka kb : Nat) (x op im : Int) (hka : ka < 16) (hkb : kb < 16) :
    Calls Tryz.prog 47 #[ptr a, ins 2 u v ka kb x op im] w fun e w' => e = .returned unit ∧ ∃ o', Mach w' a hb b o' inp (s.access inp u v ka kb im) ∧ Chg (fp a b o) w w' ∧ Nw w o o' := by
  cases u
  · exact (access_load h v ka kb x op im hka hkb).mono fun e w' ⟨he, hm, hg⟩ => ⟨he, o, hm, Chg.one hg (by simp [fp]), Nw.refl _ _⟩
  · exact access_store h v ka kb x op im hka hkb
theorem get30 (n : Int) : getI (n % 4294967296) 0 30 = n % 1073741824 := by
  have h0 : 0 ≤ n % 4294967296 := by omega
  have := get_nat (n % 4294967296) 0 30 h0 (by decide) (by decide)
  simp at this
  exact this
theorem target_u (h : Mach w a hb b o inp s) (v : Bool) (x y z op im : Int) (i0 : -8388608 ≤ im) (i1 : im ≤ 8388607) :
    Calls Tryz.prog 85 #[ptr a, ins 3 true v x y z op im] w fun e w' => e = .returned (.int .i64 ((s.pc + im) % 1073741824)) ∧ ∃ p : By, w' = gr w p := by
  have hlt := h.lt
  have c1 := h.cpc
  have p0 := h.ok.pc0
  have p1 := h.ok.pc1
  have HG : Hid (getI ((s.pc + im) % 4294967296) 0 30 = (s.pc + im) % 1073741824) := hd (get30 _)
  have HR := hd (W32.mod (s.pc + im))
  have q0 : 0 ≤ (s.pc + im) % 1073741824 := by omega
  have q1 : (s.pc + im) % 1073741824 < 1073741824 := by omega
  obtain ⟨pc, hpc⟩ : ∃ pc, s.pc = pc := ⟨_, rfl⟩
  rw [hpc] at c1 p0 p1 HG HR q0 q1 ⊢
  clear h hpc
  obtain ⟨T, hT⟩ : ∃ T, (pc + im) % 1073741824 = T := ⟨_, rfl⟩
  rw [hT] at HG q0 q1 ⊢
  clear hT
  go_enter Tryz.func85, Tryz.ntmps85
  go_wp2
  go_quiet (first
    | (go_at_call 78; exact Calls.quiet_of_same (word_any _ _))
    | (go_at_call 138; have hget := get_any ((pc + im) % 4294967296) 0 30; rw [HG.out] at hget; exact Calls.quiet_of_same (hget _ HR.out.1 HR.out.2 (by decide))))
  go_wp2
  go_ret
  exact ⟨rfl, ((G.refl _).alloc _ _).drewN _⟩
theorem target_r (h : Mach w a hb b o inp s) (v : Bool) (x y : Int) (kc : Nat) (op im : Int) (hc : kc < 16) :
    Calls Tryz.prog 85 #[ptr a, ins 3 false v x y kc op im] w fun e w' => e = .returned (.int .i64 (at0 s.R kc / 4)) ∧ ∃ p : By, w' = gr w p := by
  have hlt := h.lt
  have c1 := h.reg hc
  have hr := h.ok.reg kc
  obtain ⟨X, hX⟩ : ∃ X, at0 s.R kc = X := ⟨_, rfl⟩
  rw [hX] at c1 hr ⊢
  obtain ⟨r0, r1⟩ := hr
  clear h hX
  go_enter Tryz.func85, Tryz.ntmps85
  go_wp2
  go_quiet (fail)
  go_wp2
  go_ret
  exact ⟨rfl, ((G.refl _).alloc _ _).drewN _⟩
theorem target_any (h : Mach w a hb b o inp s) (u v : Bool) (x y : Int) (kc : Nat) (op im : Int) (hc : kc < 16) (i0 : -8388608 ≤ im) (i1 : im ≤ 8388607) :
    Calls Tryz.prog 85 #[ptr a, ins 3 u v x y kc op im] w fun e w' => e = .returned (.int .i64 (s.target u kc im)) ∧ ∃ p : By, w' = gr w p := by
  cases u
  · exact target_r h v x y kc op im hc
  · exact target_u h v x y kc op im i0 i1
end
end Go.Proofs.YtfdofleohichiaaGreatDoor.Cpu
