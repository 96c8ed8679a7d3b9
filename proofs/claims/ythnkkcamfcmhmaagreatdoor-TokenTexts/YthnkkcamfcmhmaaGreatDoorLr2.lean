/-
  The document's own tokens (package spinetref09): comment, skip.
-/
import Derived.Test.YthnkkcamfcmhmaaGreatDoorLr1
namespace Go.Proofs.YthnkkcamfcmhmaaGreatDoor.Lx
open Go.RowKit Go.Proofs.YthnkkcamfcmhmaaGreatDoor.Tx
set_option linter.unusedVariables false
set_option linter.unusedSimpArgs false
set_option maxRecDepth 100000

def cmR (at0 : Nat) (o : Option Nat) : Int := match o with | some k => (at0 : Int) + k | none => -1
/- The next two bytes. -/
theorem two_at {s : List UInt8} {p : Nat} (h : p + 1 < s.length) : ∃ a b r, s.drop p = a :: b :: r ∧ s.drop (p + 1) = b :: r ∧ s.drop (p + 2) = r := by
  refine ⟨s[p], s[p + 1], s.drop (p + 2), ?_, List.drop_eq_getElem_cons h, rfl⟩
  rw [List.drop_eq_getElem_cons (by omega), List.drop_eq_getElem_cons h]
theorem map_map2 (o : Option Nat) (a b : Nat) : (o.map (· + a)).map (· + b) = o.map (· + (a + b)) := by cases o <;> simp [Nat.add_assoc]
/- What skip tells from place p on. -/
def skT (s : List UInt8) (p : Nat) : Value := .tuple #[.int .i64 ((p : Int) + ((skP (s.drop p)).1 : Nat)), .bool (skP (s.drop p)).2]
theorem skT_on {s : List UInt8} {p q : Nat} {a : Nat × Bool} (h : skP (s.drop p) = ((skP (s.drop q)).1 + (q - p), (skP (s.drop q)).2)) (hpq : p ≤ q) : skT s p = .tuple #[.int .i64 ((q : Int) + ((skP (s.drop q)).1 : Nat)), .bool (skP (s.drop q)).2] := by
  unfold skT
  rw [h]
  simp only []
  rw [show (p : Int) + (((skP (s.drop q)).1 + (q - p) : Nat) : Int) = (q : Int) + ((skP (s.drop q)).1 : Nat) by omega]
end Go.Proofs.YthnkkcamfcmhmaaGreatDoor.Lx
