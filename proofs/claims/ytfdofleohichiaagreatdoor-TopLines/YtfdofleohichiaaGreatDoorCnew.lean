/-
  What package cpu's New, Reg, PC and Memory tell.
-/
import Derived.Test.YtfdofleohichiaaGreatDoorCpb
namespace Go.Proofs.YtfdofleohichiaaGreatDoor.Cpu
open Go.RowKit Go.Proofs.YtfdofleohichiaaGreatDoor.Bits Go.Proofs.YtfdofleohichiaaGreatDoor.Gw Go.Proofs.YtfdofleohichiaaGreatDoor.Risc Go.Proofs.YtfdofleohichiaaGreatDoor.Alu Go.Proofs.YtfdofleohichiaaGreatDoor.Mem
set_option linter.unusedVariables false

def Ms.init (xs : List Int) (start : Int) : Ms := { R := List.replicate 16 0, h := 0, n := false, z := false, c := false, v := false, pc := start, xs := xs, rd := 0, out := [], en := 3, tr := 0 }
theorem init_ok {inp : ByteArray} {xs : List Int} {start : Int} (hl : xs.length ≤ 65536) (hr : inR xs) (hi : inp.size ≤ 4096) (h0 : 0 ≤ start) (h1 : start ≤ xs.length) : (Ms.init xs start).ok inp :=
  ⟨rfl, fun x hx => by simp [Ms.init] at hx; omega, by simp [Ms.init], h0, by show start < 1073741824; omega, hl, hr, Nat.zero_le _, hi, by simp [Ms.init], fun x hx => by simp [Ms.init] at hx, by simp [Ms.init], by simp [Ms.init]⟩
theorem c_new {w : World} {ao : Option Addr} {xs : List Int} {n cp : Nat} (hs : Src w ao xs) (hr : inR xs) (hl : xs.length = n) (hn : n ≤ 65536) :
    Calls Tryz.prog 22 #[.slice ao n cp] w fun e w' => ∃ a b, e = .returned (.tuple #[ptr a, .int .i64 0]) ∧ w.grownBy w' none ∧ Mm 98 w' a b n xs ∧ w.heap.size ≤ a ∧ w.heap.size ≤ b := by
  subst hl
  exact new_ok hs hr hn
def errI (n : Nat) (i : Nat) (start : Int) : Int := if 65536 < n then 3 else if 4096 < i then 2 else if start < 0 ∨ (n : Int) < start then 1 else 0
set_option maxHeartbeats 1000000 in
theorem new_err {w : World} {ao : Option Addr} {xs : List Int} {n cp : Nat} {inp : ByteArray} {start : Int} (hs : Src w ao xs) (hr : inR xs) (hl : xs.length = n) (hn : n ≤ 1000000000000) (hi : inp.size ≤ 1000000000000) (h0 : 65536 < n ∨ 4096 < inp.size ∨ start < 0 ∨ (n : Int) < start) :
    Calls Tryz.prog 7 #[.slice ao n cp, .int .i64 start, .string inp] w fun e w' => e = .returned (.tuple #[.pointer none, .int .i64 (errI n inp.size start)]) ∧ w.grownBy w' none := by
  by_cases h1 : 65536 < n
  · have e : errI n inp.size start = 3 := by simp [errI, h1]
    rw [e]
    have H1 := hd h1
    clear e h0 h1
    go_enter Tryz.func7, Tryz.ntmps7
    go_wp2_with (go_at_call 22; refine (new_many H1.out (by omega)).mono ?_; rintro e w' ⟨rfl, rfl⟩)
    go_ret2
    exact ⟨rfl, World.grownBy.refl _ _⟩
  have H1 : Hid (n ≤ 65536) := hd (by omega)
  have HS := hd hs
  have HR := hd hr
  by_cases h2 : 4096 < inp.size
  · have e : errI n inp.size start = 2 := by simp [errI, h1, h2]
    rw [e]
    have i2 : (4096 : Int) < (inp.size : Int) := by omega
    clear e h0 h1 h2 hs hr
    go_enter Tryz.func7, Tryz.ntmps7
    go_wp2_with (go_at_call 22; refine (c_new HS.out HR.out hl H1.out).mono ?_; rintro e w' ⟨a, b, rfl, hg, _⟩; have HG := hd hg; clear hg)
    go_ret2
    exact ⟨rfl, HG.out⟩
  have i2 : ¬ (4096 : Int) < (inp.size : Int) := by omega
  have e : errI n inp.size start = 1 := by
    have : start < 0 ∨ (n : Int) < start := by omega
    simp [errI, h1, h2, this]
  rw [e]
  by_cases h3 : start < 0
  · clear e h0 h1 h2 hs hr
    go_enter Tryz.func7, Tryz.ntmps7
    go_wp2_with (go_at_call 22; refine (c_new HS.out HR.out hl H1.out).mono ?_; rintro e w' ⟨a, b, rfl, hg, _⟩; have HG := hd hg; clear hg)
    go_ret2
    exact ⟨rfl, HG.out⟩
  · have i3 : (n : Int) < start := by omega
    clear e h0 h1 h2 hs hr
    go_enter Tryz.func7, Tryz.ntmps7
    go_wp2_with (first
      | (go_at_call 22; refine (c_new HS.out HR.out hl H1.out).mono ?_; rintro e w' ⟨a, b, rfl, hg, hm, _⟩; have HG := hd hg; have HC := hd (size_at _ _ _ _ _ (by have := hm.cell; rw [hl] at this; exact this)); clear hg hm)
      | (go_at_call 23; refine HC.out.mono ?_; rintro e w' ⟨rfl, rfl⟩))
    go_ret2
    exact ⟨rfl, HG.out⟩
set_option maxHeartbeats 1000000 in
theorem cnew_ok {w : World} {ao : Option Addr} {xs : List Int} {n cp : Nat} {inp : ByteArray} {start : Int} (L : Laid w) (hs : Src w ao xs) (hr : inR xs) (hl : xs.length = n) (hn : n ≤ 65536) (hi : inp.size ≤ 4096) (h0 : 0 ≤ start) (h1 : start ≤ n) :
    Calls Tryz.prog 7 #[.slice ao n cp, .int .i64 start, .string inp] w fun e w' => ∃ a hb b, e = .returned (.tuple #[ptr a, .int .i64 0]) ∧ Mach w' a hb b (.slice none 0 0) inp (Ms.init xs start) ∧ w.grownBy w' none ∧ w.heap.size ≤ a ∧ w.heap.size ≤ hb ∧ w.heap.size ≤ b := by
  have HL := hd L
  have HS := hd hs
  have HR := hd hr
  have HN := hd hn
  have i2 : ¬ (4096 : Int) < (inp.size : Int) := by omega
  have i3 : ¬ start < 0 := by omega
  have i4 : ¬ (n : Int) < start := by omega
  have HOK : Hid ((Ms.init xs start).ok inp) := hd (init_ok (by omega) hr hi h0 (by omega))
  clear L hs hr hn hi h0 h1
  go_enter Tryz.func7, Tryz.ntmps7
  go_wp2_with (first
    | (go_at_call 22; refine (c_new HS.out HR.out hl HN.out).mono ?_; rintro e w1 ⟨a, b, rfl, hg, hm, ha, hb⟩; have HG := hd (And.intro hg (And.intro hm (And.intro ha hb))); have HC := hd (size_at _ _ _ _ _ (by have := hm.cell; rw [hl] at this; exact this)); clear hg hm ha hb)
    | (go_at_call 23; refine HC.out.mono ?_; rintro e w' ⟨rfl, rfl⟩))
  go_ret2
  obtain ⟨hg, hm, ha, hb⟩ := HG.out
  have hs1 := hg.size
  have h11 := HL.out.size
  refine ⟨_, _, _, rfl, ⟨heap_alloc_new _ _, ⟨n, hm.kept (World.grownBy_alloc _ _ none) (by simp) (by simp)⟩, World.ownsRow_nil _ _ _ _, laid_chg HL.out (F := []) (Chg.still (grown_trans hg (World.grownBy_alloc _ _ none))) (by simp), HOK.out, by omega, by omega, by omega⟩, grown_trans hg (World.grownBy_alloc _ _ none), by omega, ha, hb⟩
section
variable {w : World} {a hb b : Nat} {o : Value} {inp : ByteArray} {s : Ms}
end
end Go.Proofs.YtfdofleohichiaaGreatDoor.Cpu
