/-
  Types' laws: TypesGoods, walked.
-/
import Derived.Test.YthmldhppmpbadaaY10
import Derived.Test.YthmldhppmpbadaaTg26
import Derived.Test.YthmldhppmpbadaaTg29
namespace Go.Proofs.Ythmldhppmpbadaa.Ty
open Go.RowKit hiding Hid
open Go.Maps Go.Proofs.Ythmldhppmpbadaa.Tx Go.Proofs.Ythmldhppmpbadaa.Lx Go.Proofs.Ythmldhppmpbadaa.Tr Go.Proofs.Ythmldhppmpbadaa.Mp
set_option linter.unusedVariables false
set_option linter.unusedSimpArgs false
set_option maxRecDepth 100000

theorem large_T13 {w : World} {o : Option Addr} {l : List La} {T : List Tt} (cp : Nat) (hT : l.map La.x = T) (H : TabR w o l) (hl : l.length ≤ rch) : Calls Try.prog 23 #[.slice o T.length cp] w (LgO w l) := by
  subst hT
  rw [List.length_map]
  exact large_at cp H hl
def CpT (w : World) (T : List Tt) (e : Ending) (w' : World) : Prop := ∃ oi ci, e = .returned (.slice oi T.length ci) ∧ w.grownBy w' none ∧ Tab w' oi T ∧ T.length ≤ ci
theorem copy_T13 {w : World} {o : Option Addr} {l : List La} {T : List Tt} (cp : Nat) (hT : l.map La.x = T) (H : TabR w o l) (hf : Few l) : Calls Try.prog 26 #[.slice o T.length cp] w (CpT w T) := by
  subst hT
  obtain ⟨h1, h2, h3⟩ := hf.small H
  have hle := hf.le
  rw [show ((l.map La.x).length) = l.length by rw [List.length_map]]
  refine (copy_go cp h1 h2 h3 (by omega)).mono fun e w' ⟨oi, ci, xs, he, hg, hr, hv⟩ => ?_
  obtain ⟨ht, hc⟩ := CoO.tab (by rw [List.length_map]; omega) (fun x hx => by
    obtain ⟨a, ha, rfl⟩ := List.mem_map.1 hx
    exact (h1.parts a ha).sm) hr hv
  exact ⟨oi, ci, he, hg, ht, hc⟩
theorem tables_b {w : World} {o o2 : Option Addr} (cp cp2 : Nat) (h1 : Tab w o basT) (h2 : Tab w o2 basT) : Calls Try.prog 38 #[.slice o 7 cp, .slice o2 7 cp2] w fun e w' => e = .returned (.bool true) ∧ w.grownBy w' none := by
  have h7 : basT.length = 7 := rfl
  have h := tables_e cp cp2 h1 h2
  rw [h7] at h
  exact h
end Go.Proofs.Ythmldhppmpbadaa.Ty
