/-
  DERIVED. GIVEN WITH THE SEED: THE PROGRAM's TIES (one call each: nine closed facts by the kernel) AND EACH ROW's TIE, after the 31st guide's Derived/Test/Toyas{Tie, Card}.lean. No idea stands in it: it is a product of the set-up. Laid BY PROGRAM, IN A SANDBOX (cutbox-door.mjs). By AI agents, Wed Nov 11 2026. No macro, syntax, notation, axiom, sorry.
-/
import Derived.Test.YtfdofleohichiaaDoorRows
import Derived.LaidByTextLater
import Derived.SevenTiedAt
import Derived.LaidSub
import Derived.LaidOnce
namespace Go.Proofs.YtfdofleohichiaaDoor
open Go
set_option maxRecDepth 100000
theorem seatTie1 : Tryd.prog.laidByTextLater [("spinet/risc.formBits", Rows.laid_spinet_risc_formBits), ("spinet/risc.uBit", Rows.laid_spinet_risc_uBit), ("spinet/risc.vBit", Rows.laid_spinet_risc_vBit), ("spinet/risc.aBits", Rows.laid_spinet_risc_aBits), ("spinet/risc.bBits", Rows.laid_spinet_risc_bBits), ("spinet/risc.opBits", Rows.laid_spinet_risc_opBits), ("spinet/risc.cBits", Rows.laid_spinet_risc_cBits), ("spinet/risc.imBits", Rows.laid_spinet_risc_imBits), ("spinet/risc.memBits", Rows.laid_spinet_risc_memBits), ("spinet/risc.jumpBits", Rows.laid_spinet_risc_jumpBits), ("spinet/risc.marked", Rows.laid_spinet_risc_marked)] [.wider, .wider, .wider, .wider, .wider, .wider, .wider, .wider, .wider, .wider, .widerDeep] true :=
  Program.laidByTextLater_by_one 69 8 16 (by kernel_rfl) (by kernel_rfl) (by kernel_rfl) (by kernel_rfl) (by kernel_rfl) (by kernel_rfl) (fun _ _ => by kernel_rfl)
theorem noOwnUnsafe : Tryd.pinned.checked.prog.headLifts.contains "ownunsafe" = false := by kernel_rfl
theorem tie : Tryd.prog.laidByTextLater [("spinet/risc.formBits", Rows.laid_spinet_risc_formBits), ("spinet/risc.uBit", Rows.laid_spinet_risc_uBit), ("spinet/risc.vBit", Rows.laid_spinet_risc_vBit), ("spinet/risc.aBits", Rows.laid_spinet_risc_aBits), ("spinet/risc.bBits", Rows.laid_spinet_risc_bBits), ("spinet/risc.opBits", Rows.laid_spinet_risc_opBits), ("spinet/risc.cBits", Rows.laid_spinet_risc_cBits), ("spinet/risc.imBits", Rows.laid_spinet_risc_imBits), ("spinet/risc.memBits", Rows.laid_spinet_risc_memBits), ("spinet/risc.jumpBits", Rows.laid_spinet_risc_jumpBits), ("spinet/risc.marked", Rows.laid_spinet_risc_marked)] [.wider, .wider, .wider, .wider, .wider, .wider, .wider, .wider, .wider, .wider, .widerDeep] true :=
  Program.laidByTextLater.sub seatTie1 ["spinet/risc.formBits", "spinet/risc.uBit", "spinet/risc.vBit", "spinet/risc.aBits", "spinet/risc.bBits", "spinet/risc.opBits", "spinet/risc.cBits", "spinet/risc.imBits", "spinet/risc.memBits", "spinet/risc.jumpBits", "spinet/risc.marked"] (by kernel_rfl) (by kernel_rfl)
theorem topWords_row_tie : Rows.topWordsRow.laidByTextAt .later Tryd.pinned [.wider, .wider, .wider, .wider, .wider, .wider, .wider, .wider, .wider, .wider, .widerDeep] true :=
  OpenClaim.laidByTextAt_later rfl rfl tie noOwnUnsafe
theorem topWordsUpto_row_tie : Rows.topWordsUptoRow.laidByTextAt .later Tryd.pinned [.wider, .wider, .wider, .wider, .wider, .wider, .wider, .wider, .wider, .wider, .widerDeep] true :=
  OpenClaim.laidByTextAt_later rfl rfl tie noOwnUnsafe
end Go.Proofs.YtfdofleohichiaaDoor
