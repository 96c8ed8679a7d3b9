/-
  DERIVED. GIVEN WITH THE SEED: THE PROGRAM's TIES (one call each: nine closed facts by the kernel) AND EACH ROW's TIE, after the 31st guide's Derived/Test/Toyas{Tie, Card}.lean. No idea stands in it: it is a product of the set-up. Laid BY PROGRAM, IN A SANDBOX (cutbox-door.mjs). By AI agents, Wed Nov 11 2026. No macro, syntax, notation, axiom, sorry.
-/
import Derived.Test.YtnogmacfnlhnlaaDoorRows
import Derived.LaidByTextLater
import Derived.SevenTiedAt
import Derived.LaidSub
import Derived.LaidOnce
namespace Go.Proofs.YtnogmacfnlhnlaaDoor
open Go
set_option maxRecDepth 100000
theorem seatTie1 : Tryd.prog.laidByTextLater [("spinet/risc.formBits", Rows.laid_spinet_risc_formBits), ("spinet/risc.uBit", Rows.laid_spinet_risc_uBit), ("spinet/risc.vBit", Rows.laid_spinet_risc_vBit), ("spinet/risc.aBits", Rows.laid_spinet_risc_aBits), ("spinet/risc.bBits", Rows.laid_spinet_risc_bBits), ("spinet/risc.opBits", Rows.laid_spinet_risc_opBits), ("spinet/risc.cBits", Rows.laid_spinet_risc_cBits), ("spinet/risc.imBits", Rows.laid_spinet_risc_imBits), ("spinet/risc.memBits", Rows.laid_spinet_risc_memBits), ("spinet/risc.jumpBits", Rows.laid_spinet_risc_jumpBits), ("spinet/risc.marked", Rows.laid_spinet_risc_marked)] [.wider, .wider, .wider, .wider, .wider, .wider, .wider, .wider, .wider, .wider, .widerDeep] true :=
  Program.laidByTextLater_by_one 69 8 16 (by kernel_rfl) (by kernel_rfl) (by kernel_rfl) (by kernel_rfl) (by kernel_rfl) (by kernel_rfl) (fun _ _ => by kernel_rfl)
theorem noOwnUnsafe : Tryd.pinned.checked.prog.headLifts.contains "ownunsafe" = false := by kernel_rfl
theorem tie : Tryd.prog.laidByTextLater [("spinet/risc.formBits", Rows.laid_spinet_risc_formBits), ("spinet/risc.uBit", Rows.laid_spinet_risc_uBit), ("spinet/risc.vBit", Rows.laid_spinet_risc_vBit), ("spinet/risc.aBits", Rows.laid_spinet_risc_aBits), ("spinet/risc.bBits", Rows.laid_spinet_risc_bBits), ("spinet/risc.opBits", Rows.laid_spinet_risc_opBits), ("spinet/risc.cBits", Rows.laid_spinet_risc_cBits), ("spinet/risc.imBits", Rows.laid_spinet_risc_imBits), ("spinet/risc.memBits", Rows.laid_spinet_risc_memBits), ("spinet/risc.jumpBits", Rows.laid_spinet_risc_jumpBits), ("spinet/risc.marked", Rows.laid_spinet_risc_marked)] [.wider, .wider, .wider, .wider, .wider, .wider, .wider, .wider, .wider, .wider, .widerDeep] true :=
  Program.laidByTextLater.sub seatTie1 ["spinet/risc.formBits", "spinet/risc.uBit", "spinet/risc.vBit", "spinet/risc.aBits", "spinet/risc.bBits", "spinet/risc.opBits", "spinet/risc.cBits", "spinet/risc.imBits", "spinet/risc.memBits", "spinet/risc.jumpBits", "spinet/risc.marked"] (by kernel_rfl) (by kernel_rfl)
theorem riscEncodes_row_tie : Rows.riscEncodesRow.laidByTextAt .later Tryd.pinned [.wider, .wider, .wider, .wider, .wider, .wider, .wider, .wider, .wider, .wider, .widerDeep] true :=
  OpenClaim.laidByTextAt_later rfl rfl tie noOwnUnsafe
theorem riscDecodes_row_tie : Rows.riscDecodesRow.laidByTextAt .later Tryd.pinned [.wider, .wider, .wider, .wider, .wider, .wider, .wider, .wider, .wider, .wider, .widerDeep] true :=
  OpenClaim.laidByTextAt_later rfl rfl tie noOwnUnsafe
theorem riscBack_row_tie : Rows.riscBackRow.laidByTextAt .later Tryd.pinned [.wider, .wider, .wider, .wider, .wider, .wider, .wider, .wider, .wider, .wider, .widerDeep] true :=
  OpenClaim.laidByTextAt_later rfl rfl tie noOwnUnsafe
theorem riscJumps_row_tie : Rows.riscJumpsRow.laidByTextAt .later Tryd.pinned [.wider, .wider, .wider, .wider, .wider, .wider, .wider, .wider, .wider, .wider, .widerDeep] true :=
  OpenClaim.laidByTextAt_later rfl rfl tie noOwnUnsafe
theorem riscFields_row_tie : Rows.riscFieldsRow.laidByTextAt .later Tryd.pinned [.wider, .wider, .wider, .wider, .wider, .wider, .wider, .wider, .wider, .wider, .widerDeep] true :=
  OpenClaim.laidByTextAt_later rfl rfl tie noOwnUnsafe
theorem riscForms_row_tie : Rows.riscFormsRow.laidByTextAt .later Tryd.pinned [.wider, .wider, .wider, .wider, .wider, .wider, .wider, .wider, .wider, .wider, .widerDeep] true :=
  OpenClaim.laidByTextAt_later rfl rfl tie noOwnUnsafe
theorem riscEncodesUpto_row_tie : Rows.riscEncodesUptoRow.laidByTextAt .later Tryd.pinned [.wider, .wider, .wider, .wider, .wider, .wider, .wider, .wider, .wider, .wider, .widerDeep] true :=
  OpenClaim.laidByTextAt_later rfl rfl tie noOwnUnsafe
theorem riscDecodesUpto_row_tie : Rows.riscDecodesUptoRow.laidByTextAt .later Tryd.pinned [.wider, .wider, .wider, .wider, .wider, .wider, .wider, .wider, .wider, .wider, .widerDeep] true :=
  OpenClaim.laidByTextAt_later rfl rfl tie noOwnUnsafe
theorem riscBackUpto_row_tie : Rows.riscBackUptoRow.laidByTextAt .later Tryd.pinned [.wider, .wider, .wider, .wider, .wider, .wider, .wider, .wider, .wider, .wider, .widerDeep] true :=
  OpenClaim.laidByTextAt_later rfl rfl tie noOwnUnsafe
theorem riscJumpsUpto_row_tie : Rows.riscJumpsUptoRow.laidByTextAt .later Tryd.pinned [.wider, .wider, .wider, .wider, .wider, .wider, .wider, .wider, .wider, .wider, .widerDeep] true :=
  OpenClaim.laidByTextAt_later rfl rfl tie noOwnUnsafe
theorem riscFieldsUpto_row_tie : Rows.riscFieldsUptoRow.laidByTextAt .later Tryd.pinned [.wider, .wider, .wider, .wider, .wider, .wider, .wider, .wider, .wider, .wider, .widerDeep] true :=
  OpenClaim.laidByTextAt_later rfl rfl tie noOwnUnsafe
theorem riscFormsUpto_row_tie : Rows.riscFormsUptoRow.laidByTextAt .later Tryd.pinned [.wider, .wider, .wider, .wider, .wider, .wider, .wider, .wider, .wider, .wider, .widerDeep] true :=
  OpenClaim.laidByTextAt_later rfl rfl tie noOwnUnsafe
end Go.Proofs.YtnogmacfnlhnlaaDoor
