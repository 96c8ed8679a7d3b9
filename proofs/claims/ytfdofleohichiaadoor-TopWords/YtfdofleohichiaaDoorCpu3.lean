/-
  What package cpu's load, store and access do.
-/
import Derived.Test.YtfdofleohichiaaDoorCpu2
namespace Go.Proofs.YtfdofleohichiaaDoor.Cpu
open Go.RowKit Go.Proofs.YtfdofleohichiaaDoor.Bits Go.Proofs.YtfdofleohichiaaDoor.Gw Go.Proofs.YtfdofleohichiaaDoor.Risc Go.Proofs.YtfdofleohichiaaDoor.Alu Go.Proofs.YtfdofleohichiaaDoor.Mem
set_option linter.unusedVariables false

section
variable {w : World} {a hb b : Nat} {o : Value} {inp : ByteArray} {s : Ms}
theorem ret_wb {x y : Int} {p q : Bool} (h : x = y) (i : p = q) : Ending.returned (.tuple #[wd x, .bool p]) = .returned (.tuple #[wd y, .bool q]) := by rw [h, i]
theorem Mach.same (h : Mach w a hb b o inp s) {s' : Ms} (e : s' = s) : Mach w a hb b o inp s' := by rw [e]; exact h
theorem ldR_no {p : Int} (h : ¬ p = 4294967240) : ({ s with rd := ldR inp s p } : Ms) = s := by simp [ldR, h]
set_option maxHeartbeats 1000000 in
theorem cload_any (h : Mach w a hb b o inp s) (p : Int) (hp : W32 p) (v : Bool) :
    Calls Tryd.prog 41 #[ptr a, wd p, .bool v] w fun e w' => e = .returned (.tuple #[wd (ldV inp s p v), .bool (ldB s p v)]) ∧ Mach w' a hb b o inp { s with rd := ldR inp s p } ∧ w.grownBy w' (some a) := by
  have HM := hd h
  have c1 := h.cmem
  have HO := hd h.ob
  clear h
  by_cases h0 : p = 4294967240
  · subst h0
    obtain ⟨X, hX⟩ : ∃ X, (if s.rd < inp.size then inAt inp s.rd else 0) = X := ⟨_, rfl⟩
    obtain ⟨Y, hY⟩ : ∃ Y, (if s.rd < inp.size then s.rd + 1 else s.rd) = Y := ⟨_, rfl⟩
    have HX := hd hX
    have HY := hd hY
    clear hX hY
    go_enter Tryd.func41, Tryd.ntmps41
    go_wp2_with (go_at_call 67; refine (next_any HM.out).mono ?_; rw [HX.out, HY.out]; rintro e w' ⟨rfl, hm, hg⟩; have HN := hd (And.intro hm hg); clear hm hg)
    go_ret2
    refine ⟨ret_wb (by rw [← HX.out]; simp [ldV]) (by simp [ldB]), ?_, HN.out.2⟩
    have := HN.out.1
    rw [← HY.out] at this
    simpa [ldR] using this
  have e0 : (p == 4294967240) = false := by simpa using h0
  by_cases h1 : p = 4294967244
  · subst h1
    obtain ⟨X, hX⟩ : ∃ X : Int, (if s.rd < inp.size then 1 else 0) = X := ⟨_, rfl⟩
    have HX := hd hX
    clear hX
    go_enter Tryd.func41, Tryd.ntmps41
    go_wp2_with (go_at_call 68; refine (wait_any HM.out).mono ?_; rw [HX.out]; rintro e w' ⟨rfl, hg⟩; have HN := hd hg; clear hg)
    go_ret2
    exact ⟨ret_wb (by rw [← HX.out]; simp [ldV]) (by simp [ldB]), (HM.out.g HN.out).same (ldR_no h0), grown_g HN.out _⟩
  have e1 : (p == 4294967244) = false := by simpa using h1
  have HR : Hid (({ s with rd := ldR inp s p } : Ms) = s) := hd (ldR_no h0)
  have HV : Hid (ldV inp s p v = if v = true then byI s.xs p else ldI s.xs p) := hd (by simp [ldV, h0, h1])
  have HB : Hid (ldB s p v = if v = true then thB s.xs p else beB s.xs p) := hd (by simp [ldB, h0, h1])
  obtain ⟨p0, p1⟩ := hp
  clear h0 h1
  cases v
  · go_enter Tryd.func41, Tryd.ntmps41
    go_wp2_with (go_at_call 8; refine (load_ob HO.out _ p0 p1).mono ?_; rintro e w' ⟨rfl, rfl⟩)
    go_ret2
    exact ⟨ret_wb HV.out.symm HB.out.symm, HM.out.same HR.out, World.grownBy.refl _ _⟩
  · go_enter Tryd.func41, Tryd.ntmps41
    go_wp2_with (go_at_call 69; refine (byte_ob HO.out _ p0 p1).mono ?_; rintro e w' ⟨rfl, d, rfl⟩)
    go_ret2
    exact ⟨ret_wb HV.out.symm HB.out.symm, (HM.out.g ⟨_, gr_drewN _ _⟩).same HR.out, grown_drewN (World.grownBy.refl _ _) _⟩
/- The memory's row was written. -/
theorem Mach.memset (h : Mach w a hb b o inp s) {w' : World} {ys : List Int} (hg : w.grownBy w' (some b)) (ho : Ob 55 w' (ptr hb) b ys) (hl : ys.length ≤ 65536) (hr : inR ys) : Mach w' a hb b o inp { s with xs := ys } := by
  have hc : Chg [b] w w' := Chg.one hg (by simp)
  refine ⟨?_, ?_, ?_, laid_chg h.laid hc (by simp [h.lo.2.2]), h.ok.mem hl hr, h.lo⟩
  · rw [hc.block a h.lt (by simp [h.ne_ab])]; exact h.blk
  · rcases ho with ⟨e, _⟩ | ⟨a', c, e, hm⟩
    · cases e
    · cases e; exact ⟨c, hm⟩
  · exact own_chg h.out hc (fun k hk => by simp [(h.ne_bo hk).symm])
theorem stL_no {xs : List Int} {p y : Int} (h : beB xs p = false) : stL xs p y = xs := by simp [stL, h]
theorem pbL_no {xs : List Int} {p y : Int} (h : thB xs p = false) : pbL xs p y = xs := by simp [pbL, h]
theorem Chg.two {F : List Nat} {w w1 w2 : World} {x y : Nat} (h : w.grownBy w1 (some x)) (k : w1.grownBy w2 (some y)) (hx : x ∈ F) (hy : y ∈ F) : Chg F w w2 := Chg.trans0 (Chg.one h hx) (Chg.one k hy)
set_option maxHeartbeats 1000000 in
theorem cstore_any (h : Mach w a hb b o inp s) (p y : Int) (hp : W32 p) (hy : W32 y) (v : Bool) : Calls Tryd.prog 40 #[ptr a, wd p, wd y, .bool v] w fun e w' => e = .returned unit ∧ ∃ o', Mach w' a hb b o' inp (s.store p y v) ∧ Chg (fp a b o) w w' ∧ Nw w o o' := by
  have HM := hd h
  have c1 := h.cmem
  have c2 := h.cen
  have c3 := h.ctr
  have f2 := h.free 26
  have f3 := h.free 27
  have HO := hd h.ob
  clear h
  obtain ⟨p0, p1⟩ := hp
  have HY := hd hy
  obtain ⟨y0, y1⟩ := hy
  by_cases h0 : p = 4294967240
  · subst h0
    have hs : s.store 4294967240 y v = s.put (y % 256) := by simp [Ms.store]
    rw [hs]
    clear hs
    have hb : 0 ≤ y % 256 ∧ y % 256 < 256 := by omega
    go_enter Tryd.func40, Tryd.ntmps40
    go_wp2_with (go_at_call 64; refine (cput_any HM.out _ hb).mono ?_; rintro e w' ⟨rfl, hm⟩; have HN := hd hm; clear hm)
    go_end0
    exact ⟨rfl, HN.out⟩
  have e0 : (p == 4294967240) = false := by simpa using h0
  by_cases h1 : p = 4294967236
  · subst h1
    have hs : s.store 4294967236 y v = { s with en := 2, tr := wrap32 y } := by simp [Ms.store]
    rw [hs]
    clear hs
    have HT := hd (HM.out.entr (e := 2) (by decide) (wrap32_lt y))
    go_enter Tryd.func40, Tryd.ntmps40
    go_wp2_with (go_at_call 53; refine (signed_any _ _).mono ?_; rintro e w' ⟨rfl, rfl⟩)
    go_end0
    exact ⟨rfl, o, HT.out, Chg.one (grown_set2 _ _ _ _ _ _) (by simp [fp]), Nw.refl _ _⟩
  have e1 : (p == 4294967236) = false := by simpa using h1
  by_cases h2 : p = 4294967232
  · subst h2
    have hs : s.store 4294967232 y v = { s with en := 1 } := by simp [Ms.store]
    rw [hs]
    clear hs
    have HT := hd (HM.out.en1 (e := 1) (by decide))
    go_enter Tryd.func40, Tryd.ntmps40
    go_wp2
    go_end0
    exact ⟨rfl, o, HT.out, Chg.one (grown_set _ _ _ _) (by simp [fp]), Nw.refl _ _⟩
  have e2 : (p == 4294967232) = false := by simpa using h2
  cases v
  · have HS : Hid (s.store p y false = if beB s.xs p = true then { s with xs := stL s.xs p y } else { s with en := 5 }) := hd (by simp [Ms.store, h0, h1, h2])
    clear h0 h1 h2
    have hl := HM.out.ok.xs1
    cases hbb : beB s.xs p
    · have HB := hd hbb
      rw [HS.out, HB.out]
      clear hl hbb
      go_enter Tryd.func40, Tryd.ntmps40
      go_wp2_with (go_at_call 66; refine (store_ob HO.out _ _ p0 p1 y0 y1).mono ?_; rw [HB.out, stL_no HB.out]; rintro e w' ⟨rfl, hg, ho⟩; have hm := (HM.out.memset hg ho HM.out.ok.xs1 HM.out.ok.xr); have c4 := hm.cen; have f4 := hm.free 26; have HX := hd (hm.en1 (e := 5) (by decide)); have HG := hd hg; clear hm hg ho)
      go_end0
      exact ⟨rfl, o, HX.out, Chg.two HG.out (grown_set _ _ _ _) (by simp [fp]) (by simp [fp]), Nw.refl _ _⟩
    · have HB := hd hbb
      rw [HS.out, HB.out]
      clear hl hbb
      go_enter Tryd.func40, Tryd.ntmps40
      go_wp2_with (go_at_call 66; refine (store_ob HO.out _ _ p0 p1 y0 y1).mono ?_; rw [HB.out]; rintro e w' ⟨rfl, hg, ho⟩; have HX := hd (HM.out.memset hg ho (by rw [c_len_st]; exact HM.out.ok.xs1) (stL_r HM.out.ok.xr p HY.out)); have HG := hd hg; clear hg ho)
      go_end0
      exact ⟨rfl, o, HX.out, Chg.one HG.out (by simp [fp]), Nw.refl _ _⟩
  · have HS : Hid (s.store p y true = if thB s.xs p = true then { s with xs := pbL s.xs p y } else { s with en := 5 }) := hd (by simp [Ms.store, h0, h1, h2])
    clear h0 h1 h2
    have hl := HM.out.ok.xs1
    cases hbb : thB s.xs p
    · have HB := hd hbb
      rw [HS.out, HB.out]
      clear hl hbb
      go_enter Tryd.func40, Tryd.ntmps40
      go_wp2_with (go_at_call 65; refine (putb_ob HO.out _ _ p0 p1 y0 y1).mono ?_; rw [HB.out, pbL_no HB.out]; rintro e w' ⟨rfl, hg, ho⟩; have hm := (HM.out.memset hg ho HM.out.ok.xs1 HM.out.ok.xr); have c4 := hm.cen; have f4 := hm.free 26; have HX := hd (hm.en1 (e := 5) (by decide)); have HG := hd hg; clear hm hg ho)
      go_end0
      exact ⟨rfl, o, HX.out, Chg.two HG.out (grown_set _ _ _ _) (by simp [fp]) (by simp [fp]), Nw.refl _ _⟩
    · have HB := hd hbb
      rw [HS.out, HB.out]
      clear hl hbb
      go_enter Tryd.func40, Tryd.ntmps40
      go_wp2_with (go_at_call 65; refine (putb_ob HO.out _ _ p0 p1 y0 y1).mono ?_; rw [HB.out]; rintro e w' ⟨rfl, hg, ho⟩; have HX := hd (HM.out.memset hg ho (by rw [c_len_pb]; exact HM.out.ok.xs1) (pbL_r HM.out.ok.xr p y)); have HG := hd hg; clear hg ho)
      go_end0
      exact ⟨rfl, o, HX.out, Chg.one HG.out (by simp [fp]), Nw.refl _ _⟩
end
end Go.Proofs.YtfdofleohichiaaDoor.Cpu
