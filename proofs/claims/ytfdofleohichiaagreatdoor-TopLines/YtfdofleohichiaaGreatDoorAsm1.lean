/-
  What the document's own Dec and reg do.
-/
import Derived.Test.YtfdofleohichiaaGreatDoorTx1
import Derived.Test.YtfdofleohichiaaGreatDoorGrow
import Derived.Test.YtfdofleohichiaaGreatDoorRisc2
import Derived.Laws.IdiomStrings
import Derived.Laws.BytesString
import Derived.Laws.DeepStrings4
import Derived.Deep.RegionWith
import Derived.RegionTactic
import Derived.Deep.RegionHeld3
import Derived.Outline
namespace Go.Proofs.YtfdofleohichiaaGreatDoor.Asm
open Go.RowKit Go.Proofs.YtfdofleohichiaaGreatDoor.Bits Go.Proofs.YtfdofleohichiaaGreatDoor.Gw Go.Proofs.YtfdofleohichiaaGreatDoor.Risc Go.Proofs.YtfdofleohichiaaGreatDoor.Tx
set_option linter.unusedVariables false
set_option linter.unusedSimpArgs false
set_option maxRecDepth 100000

theorem hide {p : Prop} (h : p) : Hid p := h
theorem grown_trans {a b c : World} {r : Option Nat} (h : a.grownBy b r) (k : b.grownBy c r) : a.grownBy c r :=
  ⟨k.os.trans h.os, k.tape.trans h.tape, k.output.trans h.output, Nat.le_trans h.size k.size, fun j hj hr => (k.block j (Nat.lt_of_lt_of_le hj h.size) hr).trans (h.block j hj hr)⟩
theorem conv1 (n : Nat) (hn : n < 256) (W : World) (X cap : Nat) (h : W.cell? ⟨X, 0, none⟩ = some (.int .u8 (n : Int))) :
    (convert 50 9 (.slice (some ⟨X, 0, none⟩) 1 cap)).run Tryz.prog W = .ok (.string (bs [UInt8.ofNat n])) W := by
  have := run_convert_bytes_back (P := Tryz.prog) W 50 9 5 ⟨X, 0, none⟩ cap [UInt8.ofNat n] Tryz.underlying50 Tryz.underlying5 Tryz.underlying9 (fun j hj => by
    have : j = 0 := by simpa using hj
    subst this
    simp only [Addr.add_lit, List.getElem_cons_zero]
    rw [h]
    congr 2
    simp
    omega)
  exact this
theorem drew_g (w : World) : w.grownBy w.drew none := ⟨rfl, rfl, rfl, Nat.le_refl _, fun _ _ _ => rfl⟩
theorem gcell {w w' : World} (h : w.grownBy w' none) : ∀ b o, b < w.heap.size → w'.cell? ⟨b, o, none⟩ = w.cell? ⟨b, o, none⟩ := fun b o hb => by
  have := h.block b hb (by simp)
  simp [World.cell?, this]
end Go.Proofs.YtfdofleohichiaaGreatDoor.Asm
