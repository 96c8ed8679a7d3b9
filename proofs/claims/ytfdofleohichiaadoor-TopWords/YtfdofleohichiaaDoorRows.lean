/-
  NARROWER THAN 'FOR EVERY INPUT', by the rows' own cells (each row's printed sentence says how): TopWords: laid.
  DERIVED. THE GIVEN ROWS OF THIS SEAT. 1 by the template 'for every input the law returns true; each argument reads behind the call as it read before'; 0 by the template 'total and deterministic' (their statements: YtfdofleohichiaaDoorTotals.lean).
  GIVEN WITH THE SEED: the statements are not yours to turn. If you find one false, say at which input.
  Laid BY PROGRAM, IN A SANDBOX (cutbox-rows.mjs): the forced cells as the released guide's own fill.sh prints them over the translation e8f6ba6102de0625… (all of the seat's roots in one cut). By AI agents, Wed Nov 11 2026. No macro, syntax, notation, axiom, sorry.
-/
import Derived.Test.YtfdofleohichiaaDoorChecked
import GoSem.Claim
import GoSem.ClaimJoined
import GoSem.ClaimMapViews
import Derived.JoinedTies
import Derived.KernelRfl
namespace Go.Proofs.YtfdofleohichiaaDoor
/- THE CELL 'sum', in the pinned program and in every row, IS THE sha256 OF THE DUMP (.gsa) THAT YtfdofleohichiaaDoorProg.lean LOADS. Nothing in Lean hashes anything: it is a label: what it is worth is what the hold of that sum in a sandbox is worth. -/
noncomputable def Tryd.pinned : Pinned := { name := "ytfdofleohichiaadoor", sum := "e8f6ba6102de06257c4c616ee37c5193ec314c57b7abfe2a2915ec29bf4a344f", checked := Tryd.checked }
namespace Rows
def none {H : Type} : Left H := { results := [], args := [] }

/- WHAT THE LISTED PACKAGE-LEVEL VARIABLES READ AS WHEN THE CALL BEGINS. Each datum BY PROGRAM (the guide's laid-datum.mjs) off the statement by which the dump's own 'gosem.cut.vars' lays the variable. In a bare row this is a premise. The card (YtfdofleohichiaaDoorCards.lean) ties it to the program's text. -/
def laid_spinet_risc_formBits {H : Type} : DataW H := .agg [.lit (.int .i64 30), .lit (.int .i64 2), .lit (.bool false)]
def laid_spinet_risc_uBit {H : Type} : DataW H := .agg [.lit (.int .i64 29), .lit (.int .i64 1), .lit (.bool false)]
def laid_spinet_risc_vBit {H : Type} : DataW H := .agg [.lit (.int .i64 28), .lit (.int .i64 1), .lit (.bool false)]
def laid_spinet_risc_aBits {H : Type} : DataW H := .agg [.lit (.int .i64 24), .lit (.int .i64 4), .lit (.bool false)]
def laid_spinet_risc_bBits {H : Type} : DataW H := .agg [.lit (.int .i64 20), .lit (.int .i64 4), .lit (.bool false)]
def laid_spinet_risc_opBits {H : Type} : DataW H := .agg [.lit (.int .i64 16), .lit (.int .i64 4), .lit (.bool false)]
def laid_spinet_risc_cBits {H : Type} : DataW H := .agg [.lit (.int .i64 0), .lit (.int .i64 4), .lit (.bool false)]
def laid_spinet_risc_imBits {H : Type} : DataW H := .agg [.lit (.int .i64 0), .lit (.int .i64 16), .lit (.bool false)]
def laid_spinet_risc_memBits {H : Type} : DataW H := .agg [.lit (.int .i64 0), .lit (.int .i64 20), .lit (.bool true)]
def laid_spinet_risc_jumpBits {H : Type} : DataW H := .agg [.lit (.int .i64 0), .lit (.int .i64 24), .lit (.bool true)]
def laid_spinet_risc_marked {H : Type} : DataW H := .agg [.agg [.lit (.int .i64 0), .lit (.bool true), .lit (.bool false)], .agg [.lit (.int .i64 0), .lit (.bool true), .lit (.bool true)], .agg [.lit (.int .i64 8), .lit (.bool true), .lit (.bool false)], .agg [.lit (.int .i64 9), .lit (.bool true), .lit (.bool false)], .agg [.lit (.int .i64 10), .lit (.bool true), .lit (.bool false)]]

/-- 'spinettop.TopWords': WHATEVER THE INPUT: true; the input reads as it did. -/
def topWordsSpec : ChangeSpec := { name := "topWords", fn := fun _ => fun
  | [d1, d2, d3] => { results := [.lit (.bool true)], args := [d1, d2, d3] }
  | _ => none }
def topWordsRow : OpenClaim := { program := "ytfdofleohichiaadoor", sum := "e8f6ba6102de06257c4c616ee37c5193ec314c57b7abfe2a2915ec29bf4a344f", func := "spinet/spinettop.TopWords", spec := "topWords", named := ["spinet/risc.formBits", "spinet/risc.uBit", "spinet/risc.vBit", "spinet/risc.aBits", "spinet/risc.bBits", "spinet/risc.opBits", "spinet/risc.cBits", "spinet/risc.imBits", "spinet/risc.memBits", "spinet/risc.jumpBits", "spinet/risc.marked"], apart := false, laid := [("spinet/risc.formBits", laid_spinet_risc_formBits), ("spinet/risc.uBit", laid_spinet_risc_uBit), ("spinet/risc.vBit", laid_spinet_risc_vBit), ("spinet/risc.aBits", laid_spinet_risc_aBits), ("spinet/risc.bBits", laid_spinet_risc_bBits), ("spinet/risc.opBits", laid_spinet_risc_opBits), ("spinet/risc.cBits", laid_spinet_risc_cBits), ("spinet/risc.imBits", laid_spinet_risc_imBits), ("spinet/risc.memBits", laid_spinet_risc_memBits), ("spinet/risc.jumpBits", laid_spinet_risc_jumpBits), ("spinet/risc.marked", laid_spinet_risc_marked)] }
def TopWordsSaid : Prop := topWordsRow.holds Tryd.pinned (OpenSpec.ofChange topWordsSpec)

/-- ITS FALSE NEIGHBOUR: 'it returns false'. Refute it at one input. -/
def topWordsWrong : ChangeSpec := { name := "topWords", fn := fun _ => fun
  | [d1, d2, d3] => { results := [.lit (.bool false)], args := [d1, d2, d3] }
  | _ => none }
def TopWordsWrongFalsely : Prop := topWordsRow.holds Tryd.pinned (OpenSpec.ofChange topWordsWrong)

/- THE SECOND FORM. 'bulk': how many values and letters a reading holds, each counted each time it is reached (what is shared counts as often as it is met; a slice's spare places count too). A statement '..UptoSaid' is the law's where the arguments, and the package variables that the reading takes, are together of bulk at most 1048576: NARROWER than '..Said'. Prove '..Said' where nothing that the law and all that it calls make is longer than what came in: it says more and counts as full. Else prove '..UptoSaid'. A law counts once. -/
mutual
def uptoBulk {H : Type} : DataW H → Nat
  | .lit (.string bytes) => bytes.length + 1
  | .lit _ => 1
  | .nil => 1
  | .ptr d => uptoBulk d + 1
  | .slice elems spare => uptoBulkAll elems + uptoBulkAll spare + 1
  | .agg parts => uptoBulkAll parts + 1
  | .iface _ d => uptoBulk d + 1
  | .map entries => uptoBulkEntries entries + 1
  | .held _ => 1
def uptoBulkAll {H : Type} : List (DataW H) → Nat
  | [] => 0
  | d :: r => uptoBulk d + uptoBulkAll r
def uptoBulkEntries {H : Type} : List (Lit × DataW H) → Nat
  | [] => 0
  | x :: r => uptoBulkEntry x + uptoBulkEntries r
def uptoBulkEntry {H : Type} : Lit × DataW H → Nat
  | (.string bytes, d) => bytes.length + uptoBulk d + 1
  | (_, d) => uptoBulk d + 1
 end
def uptoSmall : (H : Type) → List (DataW H) → Bool := fun _ ds => decide (uptoBulkAll ds ≤ 1048576)
def OpenSpec.upto (s : _root_.Go.ChangeSpec) : _root_.Go.OpenSpec := { _root_.Go.OpenSpec.ofChange s with cond := some uptoSmall }

/-- 'spinettop.TopWords', WHERE WHAT IT READS IS OF BULK AT MOST 1048576: true; the input reads as it did. -/
def topWordsUptoRow : OpenClaim := { program := "ytfdofleohichiaadoor", sum := "e8f6ba6102de06257c4c616ee37c5193ec314c57b7abfe2a2915ec29bf4a344f", func := "spinet/spinettop.TopWords", spec := "topWords", named := ["spinet/risc.formBits", "spinet/risc.uBit", "spinet/risc.vBit", "spinet/risc.aBits", "spinet/risc.bBits", "spinet/risc.opBits", "spinet/risc.cBits", "spinet/risc.imBits", "spinet/risc.memBits", "spinet/risc.jumpBits", "spinet/risc.marked"], apart := false, laid := [("spinet/risc.formBits", laid_spinet_risc_formBits), ("spinet/risc.uBit", laid_spinet_risc_uBit), ("spinet/risc.vBit", laid_spinet_risc_vBit), ("spinet/risc.aBits", laid_spinet_risc_aBits), ("spinet/risc.bBits", laid_spinet_risc_bBits), ("spinet/risc.opBits", laid_spinet_risc_opBits), ("spinet/risc.cBits", laid_spinet_risc_cBits), ("spinet/risc.imBits", laid_spinet_risc_imBits), ("spinet/risc.memBits", laid_spinet_risc_memBits), ("spinet/risc.jumpBits", laid_spinet_risc_jumpBits), ("spinet/risc.marked", laid_spinet_risc_marked)], narrowed := true }
def TopWordsUptoSaid : Prop := topWordsUptoRow.holds Tryd.pinned (OpenSpec.upto topWordsSpec)

end Rows
end Go.Proofs.YtfdofleohichiaaDoor
