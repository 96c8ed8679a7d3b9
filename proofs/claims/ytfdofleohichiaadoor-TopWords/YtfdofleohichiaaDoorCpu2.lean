/-
  What package cpu's waiting, next, put, load and store do.
-/
import Derived.Test.YtfdofleohichiaaDoorCpu1
import Derived.Maps.AppendAt
namespace Go.Proofs.YtfdofleohichiaaDoor.Cpu
open Go.RowKit Go.Proofs.YtfdofleohichiaaDoor.Bits Go.Proofs.YtfdofleohichiaaDoor.Gw Go.Proofs.YtfdofleohichiaaDoor.Risc Go.Proofs.YtfdofleohichiaaDoor.Alu Go.Proofs.YtfdofleohichiaaDoor.Mem
set_option linter.unusedVariables false

/- What was put out lies where it lay, or in a block that is new. -/
def Nw (w : World) (o o' : Value) : Prop := ∀ k, o'.ownBlock = some k → o.ownBlock = some k ∨ w.heap.size ≤ k
theorem Nw.refl (w : World) (o : Value) : Nw w o o := fun _ h => .inl h
section
variable {w : World} {a hb b : Nat} {o : Value} {inp : ByteArray} {s : Ms}
theorem wait_any (h : Mach w a hb b o inp s) : Calls Tryd.prog 68 #[ptr a] w fun e w' => e = .returned (wd (if s.rd < inp.size then 1 else 0)) ∧ ∃ p : By, w' = gr w p := by
  have c1 := h.crd
  have c2 := h.cin
  clear h
  by_cases hlt : s.rd < inp.size
  · have i1 : (s.rd : Int) < (inp.size : Int) := by omega
    rw [if_pos hlt]
    go_enter Tryd.func68, Tryd.ntmps68
    go_wp2
    go_quiet (fail)
    go_wp2
    go_ret
    exact ⟨rfl, (G.refl _).drewN _⟩
  · have i1 : ¬ (s.rd : Int) < (inp.size : Int) := by omega
    rw [if_neg hlt]
    go_enter Tryd.func68, Tryd.ntmps68
    go_wp2
    go_quiet (fail)
    go_wp2
    go_ret
    exact ⟨rfl, (G.refl _).drewN _⟩
theorem in_at (inp : ByteArray) (k : Nat) (h : k < inp.size) : (inp[k].toNat : Int) = inAt inp k := by
  unfold inAt
  rw [List.getD_eq_getElem?_getD, List.getElem?_eq_getElem (by simpa using h)]
  rfl
theorem grown_of_drewN {w w' : World} {r : Option Nat} (d : Nat) (h : (w.drewN d).grownBy w' r) : w.grownBy w' r := ⟨h.os, h.tape, h.output, h.size, h.block⟩
theorem next_any (h : Mach w a hb b o inp s) : Calls Tryd.prog 67 #[ptr a] w fun e w' => e = .returned (wd (if s.rd < inp.size then inAt inp s.rd else 0)) ∧ Mach w' a hb b o inp { s with rd := if s.rd < inp.size then s.rd + 1 else s.rd } ∧ w.grownBy w' (some a) := by
  have c1 := h.crd
  have c2 := h.cin
  have f1 := h.free 24
  have hi := h.ok.in1
  by_cases hlt : s.rd < inp.size
  · have i1 : ¬ (inp.size : Int) ≤ (s.rd : Int) := by omega
    have hm := h.rd1 (n := s.rd + 1) (by omega)
    have HM := hd hm
    have HE := hd (in_at inp s.rd hlt)
    rw [if_pos hlt, if_pos hlt]
    clear h hm
    go_enter Tryd.func67, Tryd.ntmps67
    go_wp2
    go_quiet (fail)
    go_wp2
    go_quiet (fail)
    go_wp2
    go_ret
    exact ⟨ret_int (by rw [HE.out]; have := in_size inp s.rd; omega), (HM.out.g ⟨_, gr_drewN _ _⟩).g ⟨_, gr_drewN _ _⟩, grown_drewN (grown_drewN (grown_set _ _ _ _) _) _⟩
  · have i1 : (inp.size : Int) ≤ (s.rd : Int) := by omega
    have HM := hd h
    rw [if_neg hlt, if_neg hlt]
    clear h
    go_enter Tryd.func67, Tryd.ntmps67
    go_wp2
    go_quiet (fail)
    go_wp2
    go_ret
    exact ⟨rfl, HM.out.g ⟨_, gr_drewN _ _⟩, grown_drewN (World.grownBy.refl _ _) _⟩

set_option maxRecDepth 100000 in
theorem Tryd.info8 : (Tryd.prog.info? 5).map (fun i => (i.zero, i.size, i.bytes)) = some (some (.int .u8 0), 1, 1) := by kernel_rfl
theorem Mach.appended (h : Mach w a hb b o inp s) {y : Int} (hy : 0 ≤ y ∧ y < 256) (hl : s.out.length < 4096) {w1 : World} {v' : Value} {T : TypeId} (hgrow : (w.alloc (.cells #[b8 y] T)).grownBy w1 o.ownBlock)
    (hown : w1.ownsRow 11 5 1 v' (s.out.length + 1) (s.out.map b8 ++ [b8 y])) (hat : v'.ownBlock = o.ownBlock ∨ v'.ownBlock = some (w.heap.size + 1)) :
    Mach (w1.setCell ⟨a, 25, none⟩ v') a hb b v' inp { s with out := s.out ++ [y] } ∧ Chg (fp a b o) w (w1.setCell ⟨a, 25, none⟩ v') ∧ Nw w o v' := by
  have h1 : Chg (obl o) w w1 := Chg.trans0 (Chg.still (World.grownBy_alloc _ _ _)) (Chg.by hgrow (fun k hk => obl_mem.2 hk))
  have h2 : Chg [a] w1 (w1.setCell ⟨a, 25, none⟩ v') := Chg.one (grown_set _ _ _ _) (by simp)
  have na : a ∉ obl o := fun e => h.ne_ao (obl_mem.1 e) rfl
  have nh : hb ∉ obl o := fun e => h.ne_ho (obl_mem.1 e) rfl
  have nb : b ∉ obl o := fun e => h.ne_bo (obl_mem.1 e) rfl
  have hblk : w1.heap[a]? = some (.cells (mcells hb o inp s).toArray 51 (0, 0)) := by rw [h1.block a h.lt na]; exact h.blk
  obtain ⟨c, hm⟩ := h.mem
  refine ⟨⟨?_, ⟨c, ?_⟩, ?_, ?_, ?_, h.lo⟩, ?_, ?_⟩
  · rw [blk_set hblk 25 v', ms_out _ _ _ _ h.ok.r16]; rfl
  · exact Mm.chg (Mm.chg hm h1 nh nb) h2 (by simp [h.ne_ah.symm]) (by simp [h.ne_ab.symm])
  · have := own_chg hown h2 (fun k hk => by
      obtain ⟨cur, hc⟩ := row_blk hown hk
      have := blk_ne hblk hc (by decide)
      simp [this.symm])
    simpa using this
  · exact laid_chg (laid_chg h.laid h1 (fun k hk => (h.lto (obl_mem.1 hk)).1)) h2 (by simp [h.lo.1])
  · have := h.ok.put hy
    unfold Ms.put at this
    rwa [if_neg (by omega)] at this
  · refine (h1.mono (F' := fp a b o) (fun j hj => by simp [fp, hj])).trans h2 (fun j hj => ?_)
    simp at hj; subst hj; exact .inl (by simp [fp])
  · intro k hk
    rcases hat with e | e
    · rw [e] at hk; exact .inl hk
    · rw [e] at hk; cases hk; exact .inr (by omega)
theorem put_full (h : Mach w a hb b o inp s) (y : Int) (hf : 4096 ≤ s.out.length) : Calls Tryd.prog 64 #[ptr a, b8 y] w fun e w' => e = .returned unit ∧ Mach w' a hb b o inp { s with en := 6 } ∧ w.grownBy w' (some a) := by
  have HM := hd (h.en1 (e := 6) (by decide))
  have c1 := h.cout
  have c2 := h.cen
  have f2 := h.free 26
  have hmx := h.ok.out1
  have ho := h.out.2
  obtain ⟨n, hn⟩ : ∃ n, s.out.length = n := ⟨_, rfl⟩
  rw [hn] at ho hf hmx
  clear h hn
  rcases ho with ⟨rfl, h0⟩ | ⟨g, cap, cur, rfl, _⟩
  · omega
  · have i1 : (4096 : Int) ≤ (n : Int) := by omega
    clear hf hmx
    go_enter Tryd.func64, Tryd.ntmps64
    go_wp2
    refine bodyPost_ret (results_none rfl _ _ _) rfl ?_
    exact ⟨rfl, HM.out, grown_set _ _ _ _⟩
set_option maxHeartbeats 1000000 in
set_option maxRecDepth 100000 in
theorem put_room (h : Mach w a hb b o inp s) (y : Int) (hy : 0 ≤ y ∧ y < 256) (hf : s.out.length < 4096) :
    Calls Tryd.prog 64 #[ptr a, b8 y] w fun e w' => e = .returned unit ∧ ∃ o', Mach w' a hb b o' inp { s with out := s.out ++ [y] } ∧ Chg (fp a b o) w w' ∧ Nw w o o' := by
  obtain ⟨i0, hi, hz0, hz1, hz2⟩ := info_parts Tryd.info8
  have HM := hd h
  have c1 := h.cout
  have f1 := h.free 25
  have hlt := h.lt
  have hown := h.out
  have hao : ∀ k, o.ownBlock = some k → a ≠ k := fun k hk => h.ne_ao hk
  have h11 : 11 ≤ w.heap.size := h.laid.size
  obtain ⟨n, hn⟩ : ∃ n, s.out.length = n := ⟨_, rfl⟩
  have HN := hd hn
  rw [hn] at hf hown
  obtain ⟨m, cp, ho⟩ : ∃ (ao : Option Addr) (cp : Nat), o = .slice ao n cp := by
    rcases hown.2 with ⟨ho, h0⟩ | ⟨g, cap, cur, ho, _⟩
    · exact ⟨none, 0, by rw [ho, h0]⟩
    · exact ⟨_, _, ho⟩
  clear h hn
  subst ho
  have HO := hd (hown.alloc (.cells #[b8 y] 5))
  have i1 : ¬ (4096 : Int) ≤ (n : Int) := by omega
  have HF := hd hf
  have H11 := hd h11
  clear hown hf h11
  go_enter Tryd.func64, Tryd.ntmps64
  go_wp2_with (at_builtin; refine wpList_append_own_at _ rfl _ _ 49 rfl 11 5 i0 (.int .u8 0) 1 1 Tryd.underlying49 hi hz0 hz1 hz2 rfl (by decide) _ _ _ rfl HO.out ⟨w.heap.size, 0, none⟩ 1 1 [b8 y] rfl rfl (cell_one_new _ _ _) ?c2 ?c3 ?c4 ?c5 ?_)
  case c2 => first | rfl | (intro u hu; simp at hu; subst hu; rfl)
  case c3 => unfold maxLen; omega
  case c4 => omega
  case c5 => have := H11.out; simp; omega
  intro v' w1 hown' hgrow _ hat
  have HA := hd (HM.out.appended hy (by rw [HN.out]; exact HF.out) hgrow (by rw [HN.out]; exact hown') (by simpa using hat))
  have hne : some a ≠ Value.ownBlock (.slice m n cp) := fun e => hao a e.symm rfl
  have c2 : w1.cell? ⟨a, 25, none⟩ = some (.slice m n cp) := hgrow.cell (a := ⟨a, 25, none⟩) ((World.grownBy_alloc w (.cells #[b8 y] 5) none).cell (a := ⟨a, 25, none⟩) c1 (by simp)) hne
  have f2 : w1.frozen? ⟨a, 25, none⟩ = false := by
    rw [World.frozen?_of_block (w := w.alloc (.cells #[b8 y] 5)) (hgrow.block a (by simp; omega) hne), World.frozen?_of_block (w := w) ((World.grownBy_alloc w (.cells #[b8 y] 5) none).block a hlt (by simp))]; exact f1
  obtain ⟨g', cap', rfl⟩ : ∃ g' cap', v' = .slice (some ⟨g', 0, none⟩) (n + 1) cap' := by
    rcases hown'.2 with ⟨_, h0⟩ | ⟨g', cap', cur', e, _⟩
    · omega
    · exact ⟨g', cap', e⟩
  clear hown' hgrow hat HO hne hao c1 f1 i1 hlt HM
  go_wp2
  go_end0
  exact ⟨rfl, _, HA.out⟩
theorem cput_any (h : Mach w a hb b o inp s) (y : Int) (hy : 0 ≤ y ∧ y < 256) :
    Calls Tryd.prog 64 #[ptr a, b8 y] w fun e w' => e = .returned unit ∧ ∃ o', Mach w' a hb b o' inp (s.put y) ∧ Chg (fp a b o) w w' ∧ Nw w o o' := by
  unfold Ms.put
  by_cases hf : 4096 ≤ s.out.length
  · rw [if_pos hf]
    exact (put_full h y hf).mono fun e w' ⟨he, hm, hg⟩ => ⟨he, o, hm, Chg.one hg (by simp [fp]), Nw.refl _ _⟩
  · rw [if_neg hf]
    exact put_room h y hy (by omega)
end
end Go.Proofs.YtfdofleohichiaaDoor.Cpu
