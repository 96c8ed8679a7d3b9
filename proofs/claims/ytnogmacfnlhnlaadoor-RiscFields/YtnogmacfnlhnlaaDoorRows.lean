/-
  NARROWER THAN 'FOR EVERY INPUT', by the rows' own cells (each row's printed sentence says how): RiscEncodes: laid · RiscDecodes: laid · RiscBack: laid · RiscJumps: laid · RiscFields: laid · RiscForms: laid.
  DERIVED. THE GIVEN ROWS OF THIS SEAT. 6 by the template 'for every input the law returns true; each argument reads behind the call as it read before'; 0 by the template 'total and deterministic' (their statements: YtnogmacfnlhnlaaDoorTotals.lean).
  GIVEN WITH THE SEED: the statements are not yours to turn. If you find one false, say at which input.
  Laid BY PROGRAM, IN A SANDBOX (cutbox-rows.mjs): the forced cells as the released guide's own fill.sh prints them over the translation 00c8399207650026… (all of the seat's roots in one cut). By AI agents, Wed Nov 11 2026. No macro, syntax, notation, axiom, sorry.
-/
import Derived.Test.YtnogmacfnlhnlaaDoorChecked
import GoSem.Claim
import GoSem.ClaimJoined
import GoSem.ClaimMapViews
import Derived.JoinedTies
import Derived.KernelRfl
namespace Go.Proofs.YtnogmacfnlhnlaaDoor
/- THE CELL 'sum', in the pinned program and in every row, IS THE sha256 OF THE DUMP (.gsa) THAT YtnogmacfnlhnlaaDoorProg.lean LOADS. Nothing in Lean hashes anything: it is a label: what it is worth is what the hold of that sum in a sandbox is worth. -/
noncomputable def Tryd.pinned : Pinned := { name := "ytnogmacfnlhnlaadoor", sum := "00c8399207650026d2e67dc4599e1ab99edf23a5066b4843e3e0a591e617e27e", checked := Tryd.checked }
namespace Rows
def none {H : Type} : Left H := { results := [], args := [] }

/- WHAT THE LISTED PACKAGE-LEVEL VARIABLES READ AS WHEN THE CALL BEGINS. Each datum BY PROGRAM (the guide's laid-datum.mjs) off the statement by which the dump's own 'gosem.cut.vars' lays the variable. In a bare row this is a premise. The card (YtnogmacfnlhnlaaDoorCards.lean) ties it to the program's text. -/
def laid_spinet_risc_formBits {H : Type} : DataW H := .agg [.lit (.int .i64 30), .lit (.int .i64 2), .lit (.bool false)]
def laid_spinet_risc_uBit {H : Type} : DataW H := .agg [.lit (.int .i64 29), .lit (.int .i64 1), .lit (.bool false)]
def laid_spinet_risc_vBit {H : Type} : DataW H := .agg [.lit (.int .i64 28), .lit (.int .i64 1), .lit (.bool false)]
def laid_spinet_risc_aBits {H : Type} : DataW H := .agg [.lit (.int .i64 24), .lit (.int .i64 4), .lit (.bool false)]
def laid_spinet_risc_bBits {H : Type} : DataW H := .agg [.lit (.int .i64 20), .lit (.int .i64 4), .lit (.bool false)]
def laid_spinet_risc_opBits {H : Type} : DataW H := .agg [.lit (.int .i64 16), .lit (.int .i64 4), .lit (.bool false)]
def laid_spinet_risc_cBits {H : Type} : DataW H := .agg [.lit (.int .i64 0), .lit (.int .i64 4), .lit (.bool false)]
def laid_spinet_risc_imBits {H : Type} : DataW H := .agg [.lit (.int .i64 0), .lit (.int .i64 16), .lit (.bool false)]
def laid_spinet_risc_memBits {H : Type} : DataW H := .agg [.lit (.int .i64 0), .lit (.int .i64 20), .lit (.bool true)]
def laid_spinet_risc_jumpBits {H : Type} : DataW H := .agg [.lit (.int .i64 0), .lit (.int .i64 24), .lit (.bool true)]
def laid_spinet_risc_marked {H : Type} : DataW H := .agg [.agg [.lit (.int .i64 0), .lit (.bool true), .lit (.bool false)], .agg [.lit (.int .i64 0), .lit (.bool true), .lit (.bool true)], .agg [.lit (.int .i64 8), .lit (.bool true), .lit (.bool false)], .agg [.lit (.int .i64 9), .lit (.bool true), .lit (.bool false)], .agg [.lit (.int .i64 10), .lit (.bool true), .lit (.bool false)]]

/-- 'spinetlaw02.RiscEncodes': WHATEVER THE INPUT: true; the input reads as it did. -/
def riscEncodesSpec : ChangeSpec := { name := "riscEncodes", fn := fun _ => fun
  | [d] => { results := [.lit (.bool true)], args := [d] }
  | _ => none }
def riscEncodesRow : OpenClaim := { program := "ytnogmacfnlhnlaadoor", sum := "00c8399207650026d2e67dc4599e1ab99edf23a5066b4843e3e0a591e617e27e", func := "spinet/spinetlaw02.RiscEncodes", spec := "riscEncodes", named := ["spinet/risc.formBits", "spinet/risc.uBit", "spinet/risc.vBit", "spinet/risc.aBits", "spinet/risc.cBits", "spinet/risc.opBits", "spinet/risc.bBits", "spinet/risc.imBits", "spinet/risc.memBits", "spinet/risc.jumpBits", "spinet/risc.marked"], apart := false, laid := [("spinet/risc.formBits", laid_spinet_risc_formBits), ("spinet/risc.uBit", laid_spinet_risc_uBit), ("spinet/risc.vBit", laid_spinet_risc_vBit), ("spinet/risc.aBits", laid_spinet_risc_aBits), ("spinet/risc.bBits", laid_spinet_risc_bBits), ("spinet/risc.opBits", laid_spinet_risc_opBits), ("spinet/risc.cBits", laid_spinet_risc_cBits), ("spinet/risc.imBits", laid_spinet_risc_imBits), ("spinet/risc.memBits", laid_spinet_risc_memBits), ("spinet/risc.jumpBits", laid_spinet_risc_jumpBits), ("spinet/risc.marked", laid_spinet_risc_marked)] }
def RiscEncodesSaid : Prop := riscEncodesRow.holds Tryd.pinned (OpenSpec.ofChange riscEncodesSpec)

/-- ITS FALSE NEIGHBOUR: 'it returns false'. Refute it at one input. -/
def riscEncodesWrong : ChangeSpec := { name := "riscEncodes", fn := fun _ => fun
  | [d] => { results := [.lit (.bool false)], args := [d] }
  | _ => none }
def RiscEncodesWrongFalsely : Prop := riscEncodesRow.holds Tryd.pinned (OpenSpec.ofChange riscEncodesWrong)

/-- 'spinetlaw02.RiscDecodes': WHATEVER THE INPUT: true; the input reads as it did. -/
def riscDecodesSpec : ChangeSpec := { name := "riscDecodes", fn := fun _ => fun
  | [d] => { results := [.lit (.bool true)], args := [d] }
  | _ => none }
def riscDecodesRow : OpenClaim := { program := "ytnogmacfnlhnlaadoor", sum := "00c8399207650026d2e67dc4599e1ab99edf23a5066b4843e3e0a591e617e27e", func := "spinet/spinetlaw02.RiscDecodes", spec := "riscDecodes", named := ["spinet/risc.formBits", "spinet/risc.uBit", "spinet/risc.vBit", "spinet/risc.aBits", "spinet/risc.bBits", "spinet/risc.opBits", "spinet/risc.cBits", "spinet/risc.imBits", "spinet/risc.memBits", "spinet/risc.jumpBits", "spinet/risc.marked"], apart := false, laid := [("spinet/risc.formBits", laid_spinet_risc_formBits), ("spinet/risc.uBit", laid_spinet_risc_uBit), ("spinet/risc.vBit", laid_spinet_risc_vBit), ("spinet/risc.aBits", laid_spinet_risc_aBits), ("spinet/risc.bBits", laid_spinet_risc_bBits), ("spinet/risc.opBits", laid_spinet_risc_opBits), ("spinet/risc.cBits", laid_spinet_risc_cBits), ("spinet/risc.imBits", laid_spinet_risc_imBits), ("spinet/risc.memBits", laid_spinet_risc_memBits), ("spinet/risc.jumpBits", laid_spinet_risc_jumpBits), ("spinet/risc.marked", laid_spinet_risc_marked)] }
def RiscDecodesSaid : Prop := riscDecodesRow.holds Tryd.pinned (OpenSpec.ofChange riscDecodesSpec)

/-- ITS FALSE NEIGHBOUR: 'it returns false'. Refute it at one input. -/
def riscDecodesWrong : ChangeSpec := { name := "riscDecodes", fn := fun _ => fun
  | [d] => { results := [.lit (.bool false)], args := [d] }
  | _ => none }
def RiscDecodesWrongFalsely : Prop := riscDecodesRow.holds Tryd.pinned (OpenSpec.ofChange riscDecodesWrong)

/-- 'spinetlaw02.RiscBack': WHATEVER THE INPUT: true; the input reads as it did. -/
def riscBackSpec : ChangeSpec := { name := "riscBack", fn := fun _ => fun
  | [d1, d2] => { results := [.lit (.bool true)], args := [d1, d2] }
  | _ => none }
def riscBackRow : OpenClaim := { program := "ytnogmacfnlhnlaadoor", sum := "00c8399207650026d2e67dc4599e1ab99edf23a5066b4843e3e0a591e617e27e", func := "spinet/spinetlaw02.RiscBack", spec := "riscBack", named := ["spinet/risc.formBits", "spinet/risc.uBit", "spinet/risc.vBit", "spinet/risc.aBits", "spinet/risc.cBits", "spinet/risc.opBits", "spinet/risc.bBits", "spinet/risc.imBits", "spinet/risc.memBits", "spinet/risc.jumpBits", "spinet/risc.marked"], apart := false, laid := [("spinet/risc.formBits", laid_spinet_risc_formBits), ("spinet/risc.uBit", laid_spinet_risc_uBit), ("spinet/risc.vBit", laid_spinet_risc_vBit), ("spinet/risc.aBits", laid_spinet_risc_aBits), ("spinet/risc.bBits", laid_spinet_risc_bBits), ("spinet/risc.opBits", laid_spinet_risc_opBits), ("spinet/risc.cBits", laid_spinet_risc_cBits), ("spinet/risc.imBits", laid_spinet_risc_imBits), ("spinet/risc.memBits", laid_spinet_risc_memBits), ("spinet/risc.jumpBits", laid_spinet_risc_jumpBits), ("spinet/risc.marked", laid_spinet_risc_marked)] }
def RiscBackSaid : Prop := riscBackRow.holds Tryd.pinned (OpenSpec.ofChange riscBackSpec)

/-- ITS FALSE NEIGHBOUR: 'it returns false'. Refute it at one input. -/
def riscBackWrong : ChangeSpec := { name := "riscBack", fn := fun _ => fun
  | [d1, d2] => { results := [.lit (.bool false)], args := [d1, d2] }
  | _ => none }
def RiscBackWrongFalsely : Prop := riscBackRow.holds Tryd.pinned (OpenSpec.ofChange riscBackWrong)

/-- 'spinetlaw02.RiscJumps': WHATEVER THE INPUT: true; the input reads as it did. -/
def riscJumpsSpec : ChangeSpec := { name := "riscJumps", fn := fun _ => fun
  | [d1, d2, d3] => { results := [.lit (.bool true)], args := [d1, d2, d3] }
  | _ => none }
def riscJumpsRow : OpenClaim := { program := "ytnogmacfnlhnlaadoor", sum := "00c8399207650026d2e67dc4599e1ab99edf23a5066b4843e3e0a591e617e27e", func := "spinet/spinetlaw02.RiscJumps", spec := "riscJumps", named := ["spinet/risc.formBits", "spinet/risc.uBit", "spinet/risc.vBit", "spinet/risc.aBits", "spinet/risc.cBits", "spinet/risc.opBits", "spinet/risc.bBits", "spinet/risc.imBits", "spinet/risc.memBits", "spinet/risc.jumpBits", "spinet/risc.marked"], apart := false, laid := [("spinet/risc.formBits", laid_spinet_risc_formBits), ("spinet/risc.uBit", laid_spinet_risc_uBit), ("spinet/risc.vBit", laid_spinet_risc_vBit), ("spinet/risc.aBits", laid_spinet_risc_aBits), ("spinet/risc.bBits", laid_spinet_risc_bBits), ("spinet/risc.opBits", laid_spinet_risc_opBits), ("spinet/risc.cBits", laid_spinet_risc_cBits), ("spinet/risc.imBits", laid_spinet_risc_imBits), ("spinet/risc.memBits", laid_spinet_risc_memBits), ("spinet/risc.jumpBits", laid_spinet_risc_jumpBits), ("spinet/risc.marked", laid_spinet_risc_marked)] }
def RiscJumpsSaid : Prop := riscJumpsRow.holds Tryd.pinned (OpenSpec.ofChange riscJumpsSpec)

/-- ITS FALSE NEIGHBOUR: 'it returns false'. Refute it at one input. -/
def riscJumpsWrong : ChangeSpec := { name := "riscJumps", fn := fun _ => fun
  | [d1, d2, d3] => { results := [.lit (.bool false)], args := [d1, d2, d3] }
  | _ => none }
def RiscJumpsWrongFalsely : Prop := riscJumpsRow.holds Tryd.pinned (OpenSpec.ofChange riscJumpsWrong)

/-- 'spinetlaw02.RiscFields': WHATEVER THE INPUT: true; the input reads as it did. -/
def riscFieldsSpec : ChangeSpec := { name := "riscFields", fn := fun _ => fun
  | [d1, d2] => { results := [.lit (.bool true)], args := [d1, d2] }
  | _ => none }
def riscFieldsRow : OpenClaim := { program := "ytnogmacfnlhnlaadoor", sum := "00c8399207650026d2e67dc4599e1ab99edf23a5066b4843e3e0a591e617e27e", func := "spinet/spinetlaw02.RiscFields", spec := "riscFields", named := ["spinet/risc.formBits", "spinet/risc.uBit", "spinet/risc.vBit", "spinet/risc.aBits", "spinet/risc.cBits", "spinet/risc.opBits", "spinet/risc.bBits", "spinet/risc.imBits", "spinet/risc.memBits", "spinet/risc.jumpBits", "spinet/risc.marked"], apart := false, laid := [("spinet/risc.formBits", laid_spinet_risc_formBits), ("spinet/risc.uBit", laid_spinet_risc_uBit), ("spinet/risc.vBit", laid_spinet_risc_vBit), ("spinet/risc.aBits", laid_spinet_risc_aBits), ("spinet/risc.bBits", laid_spinet_risc_bBits), ("spinet/risc.opBits", laid_spinet_risc_opBits), ("spinet/risc.cBits", laid_spinet_risc_cBits), ("spinet/risc.imBits", laid_spinet_risc_imBits), ("spinet/risc.memBits", laid_spinet_risc_memBits), ("spinet/risc.jumpBits", laid_spinet_risc_jumpBits), ("spinet/risc.marked", laid_spinet_risc_marked)] }
def RiscFieldsSaid : Prop := riscFieldsRow.holds Tryd.pinned (OpenSpec.ofChange riscFieldsSpec)

/-- ITS FALSE NEIGHBOUR: 'it returns false'. Refute it at one input. -/
def riscFieldsWrong : ChangeSpec := { name := "riscFields", fn := fun _ => fun
  | [d1, d2] => { results := [.lit (.bool false)], args := [d1, d2] }
  | _ => none }
def RiscFieldsWrongFalsely : Prop := riscFieldsRow.holds Tryd.pinned (OpenSpec.ofChange riscFieldsWrong)

/-- 'spinetlaw02.RiscForms': WHATEVER THE INPUT: true; the input reads as it did. -/
def riscFormsSpec : ChangeSpec := { name := "riscForms", fn := fun _ => fun
  | [d] => { results := [.lit (.bool true)], args := [d] }
  | _ => none }
def riscFormsRow : OpenClaim := { program := "ytnogmacfnlhnlaadoor", sum := "00c8399207650026d2e67dc4599e1ab99edf23a5066b4843e3e0a591e617e27e", func := "spinet/spinetlaw02.RiscForms", spec := "riscForms", named := ["spinet/risc.formBits", "spinet/risc.uBit", "spinet/risc.vBit", "spinet/risc.aBits", "spinet/risc.bBits", "spinet/risc.opBits", "spinet/risc.cBits", "spinet/risc.imBits", "spinet/risc.memBits", "spinet/risc.jumpBits", "spinet/risc.marked"], apart := false, laid := [("spinet/risc.formBits", laid_spinet_risc_formBits), ("spinet/risc.uBit", laid_spinet_risc_uBit), ("spinet/risc.vBit", laid_spinet_risc_vBit), ("spinet/risc.aBits", laid_spinet_risc_aBits), ("spinet/risc.bBits", laid_spinet_risc_bBits), ("spinet/risc.opBits", laid_spinet_risc_opBits), ("spinet/risc.cBits", laid_spinet_risc_cBits), ("spinet/risc.imBits", laid_spinet_risc_imBits), ("spinet/risc.memBits", laid_spinet_risc_memBits), ("spinet/risc.jumpBits", laid_spinet_risc_jumpBits), ("spinet/risc.marked", laid_spinet_risc_marked)] }
def RiscFormsSaid : Prop := riscFormsRow.holds Tryd.pinned (OpenSpec.ofChange riscFormsSpec)

/-- ITS FALSE NEIGHBOUR: 'it returns false'. Refute it at one input. -/
def riscFormsWrong : ChangeSpec := { name := "riscForms", fn := fun _ => fun
  | [d] => { results := [.lit (.bool false)], args := [d] }
  | _ => none }
def RiscFormsWrongFalsely : Prop := riscFormsRow.holds Tryd.pinned (OpenSpec.ofChange riscFormsWrong)

/- THE SECOND FORM. 'bulk': how many values and letters a reading holds, each counted each time it is reached (what is shared counts as often as it is met; a slice's spare places count too). A statement '..UptoSaid' is the law's where the arguments, and the package variables that the reading takes, are together of bulk at most 1048576: NARROWER than '..Said'. Prove '..Said' where nothing that the law and all that it calls make is longer than what came in: it says more and counts as full. Else prove '..UptoSaid'. A law counts once. -/
mutual
def uptoBulk {H : Type} : DataW H → Nat
  | .lit (.string bytes) => bytes.length + 1
  | .lit _ => 1
  | .nil => 1
  | .ptr d => uptoBulk d + 1
  | .slice elems spare => uptoBulkAll elems + uptoBulkAll spare + 1
  | .agg parts => uptoBulkAll parts + 1
  | .iface _ d => uptoBulk d + 1
  | .map entries => uptoBulkEntries entries + 1
  | .held _ => 1
def uptoBulkAll {H : Type} : List (DataW H) → Nat
  | [] => 0
  | d :: r => uptoBulk d + uptoBulkAll r
def uptoBulkEntries {H : Type} : List (Lit × DataW H) → Nat
  | [] => 0
  | x :: r => uptoBulkEntry x + uptoBulkEntries r
def uptoBulkEntry {H : Type} : Lit × DataW H → Nat
  | (.string bytes, d) => bytes.length + uptoBulk d + 1
  | (_, d) => uptoBulk d + 1
 end
def uptoSmall : (H : Type) → List (DataW H) → Bool := fun _ ds => decide (uptoBulkAll ds ≤ 1048576)
def OpenSpec.upto (s : _root_.Go.ChangeSpec) : _root_.Go.OpenSpec := { _root_.Go.OpenSpec.ofChange s with cond := some uptoSmall }

/-- 'spinetlaw02.RiscEncodes', WHERE WHAT IT READS IS OF BULK AT MOST 1048576: true; the input reads as it did. -/
def riscEncodesUptoRow : OpenClaim := { program := "ytnogmacfnlhnlaadoor", sum := "00c8399207650026d2e67dc4599e1ab99edf23a5066b4843e3e0a591e617e27e", func := "spinet/spinetlaw02.RiscEncodes", spec := "riscEncodes", named := ["spinet/risc.formBits", "spinet/risc.uBit", "spinet/risc.vBit", "spinet/risc.aBits", "spinet/risc.cBits", "spinet/risc.opBits", "spinet/risc.bBits", "spinet/risc.imBits", "spinet/risc.memBits", "spinet/risc.jumpBits", "spinet/risc.marked"], apart := false, laid := [("spinet/risc.formBits", laid_spinet_risc_formBits), ("spinet/risc.uBit", laid_spinet_risc_uBit), ("spinet/risc.vBit", laid_spinet_risc_vBit), ("spinet/risc.aBits", laid_spinet_risc_aBits), ("spinet/risc.bBits", laid_spinet_risc_bBits), ("spinet/risc.opBits", laid_spinet_risc_opBits), ("spinet/risc.cBits", laid_spinet_risc_cBits), ("spinet/risc.imBits", laid_spinet_risc_imBits), ("spinet/risc.memBits", laid_spinet_risc_memBits), ("spinet/risc.jumpBits", laid_spinet_risc_jumpBits), ("spinet/risc.marked", laid_spinet_risc_marked)], narrowed := true }
def RiscEncodesUptoSaid : Prop := riscEncodesUptoRow.holds Tryd.pinned (OpenSpec.upto riscEncodesSpec)

/-- 'spinetlaw02.RiscDecodes', WHERE WHAT IT READS IS OF BULK AT MOST 1048576: true; the input reads as it did. -/
def riscDecodesUptoRow : OpenClaim := { program := "ytnogmacfnlhnlaadoor", sum := "00c8399207650026d2e67dc4599e1ab99edf23a5066b4843e3e0a591e617e27e", func := "spinet/spinetlaw02.RiscDecodes", spec := "riscDecodes", named := ["spinet/risc.formBits", "spinet/risc.uBit", "spinet/risc.vBit", "spinet/risc.aBits", "spinet/risc.bBits", "spinet/risc.opBits", "spinet/risc.cBits", "spinet/risc.imBits", "spinet/risc.memBits", "spinet/risc.jumpBits", "spinet/risc.marked"], apart := false, laid := [("spinet/risc.formBits", laid_spinet_risc_formBits), ("spinet/risc.uBit", laid_spinet_risc_uBit), ("spinet/risc.vBit", laid_spinet_risc_vBit), ("spinet/risc.aBits", laid_spinet_risc_aBits), ("spinet/risc.bBits", laid_spinet_risc_bBits), ("spinet/risc.opBits", laid_spinet_risc_opBits), ("spinet/risc.cBits", laid_spinet_risc_cBits), ("spinet/risc.imBits", laid_spinet_risc_imBits), ("spinet/risc.memBits", laid_spinet_risc_memBits), ("spinet/risc.jumpBits", laid_spinet_risc_jumpBits), ("spinet/risc.marked", laid_spinet_risc_marked)], narrowed := true }
def RiscDecodesUptoSaid : Prop := riscDecodesUptoRow.holds Tryd.pinned (OpenSpec.upto riscDecodesSpec)

/-- 'spinetlaw02.RiscBack', WHERE WHAT IT READS IS OF BULK AT MOST 1048576: true; the input reads as it did. -/
def riscBackUptoRow : OpenClaim := { program := "ytnogmacfnlhnlaadoor", sum := "00c8399207650026d2e67dc4599e1ab99edf23a5066b4843e3e0a591e617e27e", func := "spinet/spinetlaw02.RiscBack", spec := "riscBack", named := ["spinet/risc.formBits", "spinet/risc.uBit", "spinet/risc.vBit", "spinet/risc.aBits", "spinet/risc.cBits", "spinet/risc.opBits", "spinet/risc.bBits", "spinet/risc.imBits", "spinet/risc.memBits", "spinet/risc.jumpBits", "spinet/risc.marked"], apart := false, laid := [("spinet/risc.formBits", laid_spinet_risc_formBits), ("spinet/risc.uBit", laid_spinet_risc_uBit), ("spinet/risc.vBit", laid_spinet_risc_vBit), ("spinet/risc.aBits", laid_spinet_risc_aBits), ("spinet/risc.bBits", laid_spinet_risc_bBits), ("spinet/risc.opBits", laid_spinet_risc_opBits), ("spinet/risc.cBits", laid_spinet_risc_cBits), ("spinet/risc.imBits", laid_spinet_risc_imBits), ("spinet/risc.memBits", laid_spinet_risc_memBits), ("spinet/risc.jumpBits", laid_spinet_risc_jumpBits), ("spinet/risc.marked", laid_spinet_risc_marked)], narrowed := true }
def RiscBackUptoSaid : Prop := riscBackUptoRow.holds Tryd.pinned (OpenSpec.upto riscBackSpec)

/-- 'spinetlaw02.RiscJumps', WHERE WHAT IT READS IS OF BULK AT MOST 1048576: true; the input reads as it did. -/
def riscJumpsUptoRow : OpenClaim := { program := "ytnogmacfnlhnlaadoor", sum := "00c8399207650026d2e67dc4599e1ab99edf23a5066b4843e3e0a591e617e27e", func := "spinet/spinetlaw02.RiscJumps", spec := "riscJumps", named := ["spinet/risc.formBits", "spinet/risc.uBit", "spinet/risc.vBit", "spinet/risc.aBits", "spinet/risc.cBits", "spinet/risc.opBits", "spinet/risc.bBits", "spinet/risc.imBits", "spinet/risc.memBits", "spinet/risc.jumpBits", "spinet/risc.marked"], apart := false, laid := [("spinet/risc.formBits", laid_spinet_risc_formBits), ("spinet/risc.uBit", laid_spinet_risc_uBit), ("spinet/risc.vBit", laid_spinet_risc_vBit), ("spinet/risc.aBits", laid_spinet_risc_aBits), ("spinet/risc.bBits", laid_spinet_risc_bBits), ("spinet/risc.opBits", laid_spinet_risc_opBits), ("spinet/risc.cBits", laid_spinet_risc_cBits), ("spinet/risc.imBits", laid_spinet_risc_imBits), ("spinet/risc.memBits", laid_spinet_risc_memBits), ("spinet/risc.jumpBits", laid_spinet_risc_jumpBits), ("spinet/risc.marked", laid_spinet_risc_marked)], narrowed := true }
def RiscJumpsUptoSaid : Prop := riscJumpsUptoRow.holds Tryd.pinned (OpenSpec.upto riscJumpsSpec)

/-- 'spinetlaw02.RiscFields', WHERE WHAT IT READS IS OF BULK AT MOST 1048576: true; the input reads as it did. -/
def riscFieldsUptoRow : OpenClaim := { program := "ytnogmacfnlhnlaadoor", sum := "00c8399207650026d2e67dc4599e1ab99edf23a5066b4843e3e0a591e617e27e", func := "spinet/spinetlaw02.RiscFields", spec := "riscFields", named := ["spinet/risc.formBits", "spinet/risc.uBit", "spinet/risc.vBit", "spinet/risc.aBits", "spinet/risc.cBits", "spinet/risc.opBits", "spinet/risc.bBits", "spinet/risc.imBits", "spinet/risc.memBits", "spinet/risc.jumpBits", "spinet/risc.marked"], apart := false, laid := [("spinet/risc.formBits", laid_spinet_risc_formBits), ("spinet/risc.uBit", laid_spinet_risc_uBit), ("spinet/risc.vBit", laid_spinet_risc_vBit), ("spinet/risc.aBits", laid_spinet_risc_aBits), ("spinet/risc.bBits", laid_spinet_risc_bBits), ("spinet/risc.opBits", laid_spinet_risc_opBits), ("spinet/risc.cBits", laid_spinet_risc_cBits), ("spinet/risc.imBits", laid_spinet_risc_imBits), ("spinet/risc.memBits", laid_spinet_risc_memBits), ("spinet/risc.jumpBits", laid_spinet_risc_jumpBits), ("spinet/risc.marked", laid_spinet_risc_marked)], narrowed := true }
def RiscFieldsUptoSaid : Prop := riscFieldsUptoRow.holds Tryd.pinned (OpenSpec.upto riscFieldsSpec)

/-- 'spinetlaw02.RiscForms', WHERE WHAT IT READS IS OF BULK AT MOST 1048576: true; the input reads as it did. -/
def riscFormsUptoRow : OpenClaim := { program := "ytnogmacfnlhnlaadoor", sum := "00c8399207650026d2e67dc4599e1ab99edf23a5066b4843e3e0a591e617e27e", func := "spinet/spinetlaw02.RiscForms", spec := "riscForms", named := ["spinet/risc.formBits", "spinet/risc.uBit", "spinet/risc.vBit", "spinet/risc.aBits", "spinet/risc.bBits", "spinet/risc.opBits", "spinet/risc.cBits", "spinet/risc.imBits", "spinet/risc.memBits", "spinet/risc.jumpBits", "spinet/risc.marked"], apart := false, laid := [("spinet/risc.formBits", laid_spinet_risc_formBits), ("spinet/risc.uBit", laid_spinet_risc_uBit), ("spinet/risc.vBit", laid_spinet_risc_vBit), ("spinet/risc.aBits", laid_spinet_risc_aBits), ("spinet/risc.bBits", laid_spinet_risc_bBits), ("spinet/risc.opBits", laid_spinet_risc_opBits), ("spinet/risc.cBits", laid_spinet_risc_cBits), ("spinet/risc.imBits", laid_spinet_risc_imBits), ("spinet/risc.memBits", laid_spinet_risc_memBits), ("spinet/risc.jumpBits", laid_spinet_risc_jumpBits), ("spinet/risc.marked", laid_spinet_risc_marked)], narrowed := true }
def RiscFormsUptoSaid : Prop := riscFormsUptoRow.holds Tryd.pinned (OpenSpec.upto riscFormsSpec)

end Rows
end Go.Proofs.YtnogmacfnlhnlaaDoor
