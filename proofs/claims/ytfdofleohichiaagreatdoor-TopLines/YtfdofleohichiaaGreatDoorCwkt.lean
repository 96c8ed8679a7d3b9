/-
  What the whole's first look (wakesCpu) answers.
-/
import Derived.Test.YtfdofleohichiaaGreatDoorChtt
namespace Go.Proofs.YtfdofleohichiaaGreatDoor.Cpu
open Go.RowKit Go.Proofs.YtfdofleohichiaaGreatDoor.Bits Go.Proofs.YtfdofleohichiaaGreatDoor.Gw Go.Proofs.YtfdofleohichiaaGreatDoor.Risc Go.Proofs.YtfdofleohichiaaGreatDoor.Alu Go.Proofs.YtfdofleohichiaaGreatDoor.Mem
set_option linter.unusedVariables false

/- An outcome's cells, in a block of its own, stay through a run. -/
theorem oc_kept {W w' : World} {X a b : Nat} {o : Value} {i : Nat} {v : Value} (h : W.cell? ⟨X, i, none⟩ = some v) (g : Chg (fp a b o) W w') (hX : X ∉ fp a b o) : w'.cell? ⟨X, i, none⟩ = some v :=
  (g.cell (World.block_lt_of_cell? W _ h) hX).trans h
theorem fp_ge {a b : Nat} {o : Value} {F : Nat} (ha : F ≤ a) (hb : F ≤ b) (ho : ∀ k, o.ownBlock = some k → F ≤ k) : ∀ k ∈ fp a b o, F ≤ k := by
  intro k hk
  simp only [fp, List.mem_cons, obl_mem] at hk
  rcases hk with rfl | rfl | hk
  · exact ha
  · exact hb
  · exact ho k hk
theorem nil_own {k : Nat} (h : (Value.slice none 0 0).ownBlock = some k) : False := by simp [Value.ownBlock] at h
theorem run_at {w : World} {a hb b : Nat} {o : Value} {inp : ByteArray} {s : Ms} (h : Mach w a hb b o inp s) (k : Nat) (K : Int) (hK : (k : Int) = K) (hk : k ≤ 4194304) {S : Ms} {n : Nat} (hS : it inp k s = S) (hn : ct inp k s = n) :
    Calls Tryz.prog 9 #[ptr a, .int .i64 K] w fun e w' => ∃ o', e = .returned (.tuple #[.agg #[.int .i64 S.en, .int .i64 S.tr, .string (strO S.out), .int .i64 n, .int .i64 S.rd], .int .i64 0]) ∧ Mach w' a hb b o' inp S ∧ Chg (fp a b o) w w' ∧ Nw w o o' := by
  subst hK hS hn
  exact run_any h k hk
theorem notin_fp {w : World} {a hb b : Nat} {o : Value} {inp : ByteArray} {s : Ms} (h : Mach w a hb b o inp s) : w.heap.size ∉ fp a b o := fun e => by have := fp_lt h _ e; omega
theorem far {w w1 w2 : World} (h : w.grownBy w1 none) {F : List Nat} (k : Chg F w1 w2) (hF : ∀ j ∈ F, w.heap.size ≤ j) : w.grownBy w2 none :=
  ⟨k.os.trans h.os, k.tape.trans h.tape, k.output.trans h.output, Nat.le_trans h.size k.size, fun j hj _ => (k.block j (Nat.lt_of_lt_of_le hj h.size) (fun e => by have := hF j e; omega)).trans (h.block j hj (by simp))⟩
set_option maxHeartbeats 4000000 in
set_option maxRecDepth 100000 in
theorem wakes_any (w : World) (L : Laid w) : Calls Tryz.prog 4 #[] w fun e w' => e = .returned (.bool true) ∧ w.grownBy w' none := by
  have HL := hd L
  obtain ⟨S, hS⟩ : ∃ S, it ⟨#[]⟩ 100 (Ms.init haltL 0) = S := ⟨_, rfl⟩
  obtain ⟨h1, h2, h3⟩ := halt_ran
  rw [hS] at h1 h2
  have HS := hd hS
  have H3 := hd h3
  have HE := hd (And.intro h1 h2)
  clear L hS h3 h1 h2
  go_enter Tryz.func4, Tryz.ntmps4
  go_wp2_with (first
    | (go_at_call 11; refine (halt_any _).mono ?_; rintro e w1 ⟨v, rfl, hg, ho⟩; obtain ⟨ao, cp, rfl, hs, _⟩ := own_src (xs := haltL) ho; have HN := hd (cnew_ok (cp := cp) (inp := ⟨#[]⟩) (start := 0) (laid_chg HL.out (F := []) (Chg.still hg) (by simp)) hs halt_rng halt_len (by decide) (by decide) (by decide) (by decide)); have HGa := hd hg; clear hg ho hs)
    | (go_at_call 7; refine HN.out.mono ?_; rintro e w2 ⟨a, hb, b, rfl, hm, hg, ha, hh, hb'⟩; have HM := hd hm; have HGb := hd (And.intro hg (And.intro ha hb')); clear hm hg ha hh hb')
    | (go_at_call 9; refine (run_at HM.out 100 100 rfl (by decide) HS.out H3.out).mono ?_; rw [HE.out.1, HE.out.2]; rintro e w3 ⟨o1, rfl, hm, hc, hn⟩; have HC1 := hd (And.intro hc hn); clear hm hc hn))
  go_ret
  obtain ⟨hc1, hn1⟩ := HC1.out
  obtain ⟨hg2, ha, hb'⟩ := HGb.out
  have s1 := HGa.out.size
  have s2 := hg2.size
  have k1 := far (grown_trans HGa.out hg2) hc1 (fp_ge (by omega) (by omega) (fun k hk => (nil_own hk).elim))
  exact ⟨rfl, grown_trans k1 (World.grownBy_alloc _ _ _)⟩
end Go.Proofs.YtfdofleohichiaaGreatDoor.Cpu
