/-
  The document's own tokens (package spinetref09): Dec (of spinetref06).
-/
import Derived.Test.YthnkkcamfcmhmaaDoorLr10
import Derived.Laws.IdiomStrings
import Derived.Laws.BytesString
import Derived.Laws.DeepStrings4
import Derived.Deep.RegionWith
import Derived.RegionTactic
import Derived.Deep.RegionHeld3
import Derived.Outline
namespace Go.Proofs.YthnkkcamfcmhmaaDoor.Lx
open Go.RowKit Go.Proofs.YthnkkcamfcmhmaaDoor.Tx
set_option linter.unusedVariables false
set_option linter.unusedSimpArgs false
set_option maxRecDepth 100000

theorem conv1 (n : Nat) (hn : n < 256) (W : World) (X cap : Nat) (h : W.cell? ⟨X, 0, none⟩ = some (.int .u8 (n : Int))) :
    (convert 34 9 (.slice (some ⟨X, 0, none⟩) 1 cap)).run Tryd.prog W = .ok (.string (bs [UInt8.ofNat n])) W := by
  have := run_convert_bytes_back (P := Tryd.prog) W 34 9 5 ⟨X, 0, none⟩ cap [UInt8.ofNat n] Tryd.underlying34 Tryd.underlying5 Tryd.underlying9 (fun j hj => by
    have : j = 0 := by simpa using hj
    subst this
    simp only [Addr.add_lit, List.getElem_cons_zero]
    rw [h]
    congr 2
    simp
    omega)
  exact this
theorem drew_g (w : World) : w.grownBy w.drew none := ⟨rfl, rfl, rfl, Nat.le_refl _, fun _ _ _ => rfl⟩
theorem gcell {w w' : World} (h : w.grownBy w' none) : ∀ b o, b < w.heap.size → w'.cell? ⟨b, o, none⟩ = w.cell? ⟨b, o, none⟩ := fun b o hb => by
  have := h.block b hb (by simp)
  simp [World.cell?, this]
end Go.Proofs.YthnkkcamfcmhmaaDoor.Lx
