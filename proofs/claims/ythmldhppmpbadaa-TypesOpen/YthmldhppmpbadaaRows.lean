/-
  No cell of these rows narrows 'for every input' (looked for: loops, veiled, ifaces, maps, wideKeys, modest, calm, conditions, laid).
  DERIVED. THE GIVEN ROWS OF THIS SEAT. 8 by the template 'for every input the law returns true; each argument reads behind the call as it read before'; 0 by the template 'total and deterministic' (their statements: YthmldhppmpbadaaTotals.lean).
  GIVEN WITH THE SEED: the statements are not yours to turn. If you find one false, say at which input.
  Laid BY PROGRAM, IN A SANDBOX (cutbox-rows.mjs): the forced cells as the released guide's own fill.sh prints them over the translation 512736e0e4b3a401… (all of the seat's roots in one cut). By AI agents, Wed Nov 11 2026. No macro, syntax, notation, axiom, sorry.
-/
import Derived.Test.YthmldhppmpbadaaChecked
import GoSem.Claim
import GoSem.ClaimJoined
import GoSem.ClaimMapViews
import Derived.JoinedTies
import Derived.KernelRfl
namespace Go.Proofs.Ythmldhppmpbadaa
/- THE CELL 'sum', in the pinned program and in every row, IS THE sha256 OF THE DUMP (.gsa) THAT YthmldhppmpbadaaProg.lean LOADS. Nothing in Lean hashes anything: it is a label: what it is worth is what the hold of that sum in a sandbox is worth. -/
noncomputable def Try.pinned : Pinned := { name := "ythmldhppmpbadaa", sum := "512736e0e4b3a40113040881b494deb894a842e3b4202cfd42d9177286fc9eab", checked := Try.checked }
namespace Rows
def none {H : Type} : Left H := { results := [], args := [] }

/-- 'spinetlaw16.IfaceGoods': WHATEVER THE INPUT: true; the input reads as it did. -/
def ifaceGoodsSpec : ChangeSpec := { name := "ifaceGoods", fn := fun _ => fun
  | [d1, d2] => { results := [.lit (.bool true)], args := [d1, d2] }
  | _ => none }
def ifaceGoodsRow : OpenClaim := { program := "ythmldhppmpbadaa", sum := "512736e0e4b3a40113040881b494deb894a842e3b4202cfd42d9177286fc9eab", func := "spinet/spinetlaw16.IfaceGoods", spec := "ifaceGoods", recurses := true, plainKeys := false, apart := false }
def IfaceGoodsSaid : Prop := ifaceGoodsRow.holds Try.pinned (OpenSpec.ofChange ifaceGoodsSpec)

/-- ITS FALSE NEIGHBOUR: 'it returns false'. Refute it at one input. -/
def ifaceGoodsWrong : ChangeSpec := { name := "ifaceGoods", fn := fun _ => fun
  | [d1, d2] => { results := [.lit (.bool false)], args := [d1, d2] }
  | _ => none }
def IfaceGoodsWrongFalsely : Prop := ifaceGoodsRow.holds Try.pinned (OpenSpec.ofChange ifaceGoodsWrong)

/-- 'spinetlaw16.IfaceTrims': WHATEVER THE INPUT: true; the input reads as it did. -/
def ifaceTrimsSpec : ChangeSpec := { name := "ifaceTrims", fn := fun _ => fun
  | [d] => { results := [.lit (.bool true)], args := [d] }
  | _ => none }
def ifaceTrimsRow : OpenClaim := { program := "ythmldhppmpbadaa", sum := "512736e0e4b3a40113040881b494deb894a842e3b4202cfd42d9177286fc9eab", func := "spinet/spinetlaw16.IfaceTrims", spec := "ifaceTrims", recurses := true, plainKeys := false, apart := false }
def IfaceTrimsSaid : Prop := ifaceTrimsRow.holds Try.pinned (OpenSpec.ofChange ifaceTrimsSpec)

/-- ITS FALSE NEIGHBOUR: 'it returns false'. Refute it at one input. -/
def ifaceTrimsWrong : ChangeSpec := { name := "ifaceTrims", fn := fun _ => fun
  | [d] => { results := [.lit (.bool false)], args := [d] }
  | _ => none }
def IfaceTrimsWrongFalsely : Prop := ifaceTrimsRow.holds Try.pinned (OpenSpec.ofChange ifaceTrimsWrong)

/-- 'spinetlaw16.IfaceSames': WHATEVER THE INPUT: true; the input reads as it did. -/
def ifaceSamesSpec : ChangeSpec := { name := "ifaceSames", fn := fun _ => fun
  | [d1, d2] => { results := [.lit (.bool true)], args := [d1, d2] }
  | _ => none }
def ifaceSamesRow : OpenClaim := { program := "ythmldhppmpbadaa", sum := "512736e0e4b3a40113040881b494deb894a842e3b4202cfd42d9177286fc9eab", func := "spinet/spinetlaw16.IfaceSames", spec := "ifaceSames", unfollowed := true, recurses := true, plainKeys := false, apart := false }
def IfaceSamesSaid : Prop := ifaceSamesRow.holds Try.pinned (OpenSpec.ofChange ifaceSamesSpec)

/-- ITS FALSE NEIGHBOUR: 'it returns false'. Refute it at one input. -/
def ifaceSamesWrong : ChangeSpec := { name := "ifaceSames", fn := fun _ => fun
  | [d1, d2] => { results := [.lit (.bool false)], args := [d1, d2] }
  | _ => none }
def IfaceSamesWrongFalsely : Prop := ifaceSamesRow.holds Try.pinned (OpenSpec.ofChange ifaceSamesWrong)

/-- 'spinetlaw16.IfaceAgain': WHATEVER THE INPUT: true; the input reads as it did. -/
def ifaceAgainSpec : ChangeSpec := { name := "ifaceAgain", fn := fun _ => fun
  | [d] => { results := [.lit (.bool true)], args := [d] }
  | _ => none }
def ifaceAgainRow : OpenClaim := { program := "ythmldhppmpbadaa", sum := "512736e0e4b3a40113040881b494deb894a842e3b4202cfd42d9177286fc9eab", func := "spinet/spinetlaw16.IfaceAgain", spec := "ifaceAgain", unfollowed := true, recurses := true, plainKeys := false, apart := false }
def IfaceAgainSaid : Prop := ifaceAgainRow.holds Try.pinned (OpenSpec.ofChange ifaceAgainSpec)

/-- ITS FALSE NEIGHBOUR: 'it returns false'. Refute it at one input. -/
def ifaceAgainWrong : ChangeSpec := { name := "ifaceAgain", fn := fun _ => fun
  | [d] => { results := [.lit (.bool false)], args := [d] }
  | _ => none }
def IfaceAgainWrongFalsely : Prop := ifaceAgainRow.holds Try.pinned (OpenSpec.ofChange ifaceAgainWrong)

/-- 'spinetlaw16.IfaceRoom': WHATEVER THE INPUT: true; the input reads as it did. -/
def ifaceRoomSpec : ChangeSpec := { name := "ifaceRoom", fn := fun _ => fun
  | [d1, d2] => { results := [.lit (.bool true)], args := [d1, d2] }
  | _ => none }
def ifaceRoomRow : OpenClaim := { program := "ythmldhppmpbadaa", sum := "512736e0e4b3a40113040881b494deb894a842e3b4202cfd42d9177286fc9eab", func := "spinet/spinetlaw16.IfaceRoom", spec := "ifaceRoom", recurses := true, plainKeys := false, apart := false }
def IfaceRoomSaid : Prop := ifaceRoomRow.holds Try.pinned (OpenSpec.ofChange ifaceRoomSpec)

/-- ITS FALSE NEIGHBOUR: 'it returns false'. Refute it at one input. -/
def ifaceRoomWrong : ChangeSpec := { name := "ifaceRoom", fn := fun _ => fun
  | [d1, d2] => { results := [.lit (.bool false)], args := [d1, d2] }
  | _ => none }
def IfaceRoomWrongFalsely : Prop := ifaceRoomRow.holds Try.pinned (OpenSpec.ofChange ifaceRoomWrong)

/-- 'spinetlaw16.IfaceFinds': WHATEVER THE INPUT: true; the input reads as it did. -/
def ifaceFindsSpec : ChangeSpec := { name := "ifaceFinds", fn := fun _ => fun
  | [d1, d2] => { results := [.lit (.bool true)], args := [d1, d2] }
  | _ => none }
def ifaceFindsRow : OpenClaim := { program := "ythmldhppmpbadaa", sum := "512736e0e4b3a40113040881b494deb894a842e3b4202cfd42d9177286fc9eab", func := "spinet/spinetlaw16.IfaceFinds", spec := "ifaceFinds", recurses := true, plainKeys := false, apart := false }
def IfaceFindsSaid : Prop := ifaceFindsRow.holds Try.pinned (OpenSpec.ofChange ifaceFindsSpec)

/-- ITS FALSE NEIGHBOUR: 'it returns false'. Refute it at one input. -/
def ifaceFindsWrong : ChangeSpec := { name := "ifaceFinds", fn := fun _ => fun
  | [d1, d2] => { results := [.lit (.bool false)], args := [d1, d2] }
  | _ => none }
def IfaceFindsWrongFalsely : Prop := ifaceFindsRow.holds Try.pinned (OpenSpec.ofChange ifaceFindsWrong)

/-- 'spinetlaw13.TypesRoom': WHATEVER THE INPUT: true; the input reads as it did. -/
def typesRoomSpec : ChangeSpec := { name := "typesRoom", fn := fun _ => fun
  | [d1, d2, d3] => { results := [.lit (.bool true)], args := [d1, d2, d3] }
  | _ => none }
def typesRoomRow : OpenClaim := { program := "ythmldhppmpbadaa", sum := "512736e0e4b3a40113040881b494deb894a842e3b4202cfd42d9177286fc9eab", func := "spinet/spinetlaw13.TypesRoom", spec := "typesRoom", recurses := true, plainKeys := false, apart := false }
def TypesRoomSaid : Prop := typesRoomRow.holds Try.pinned (OpenSpec.ofChange typesRoomSpec)

/-- ITS FALSE NEIGHBOUR: 'it returns false'. Refute it at one input. -/
def typesRoomWrong : ChangeSpec := { name := "typesRoom", fn := fun _ => fun
  | [d1, d2, d3] => { results := [.lit (.bool false)], args := [d1, d2, d3] }
  | _ => none }
def TypesRoomWrongFalsely : Prop := typesRoomRow.holds Try.pinned (OpenSpec.ofChange typesRoomWrong)

/-- 'spinetlaw13.TypesOpen': WHATEVER THE INPUT: true; the input reads as it did. -/
def typesOpenSpec : ChangeSpec := { name := "typesOpen", fn := fun _ => fun
  | [d1, d2, d3] => { results := [.lit (.bool true)], args := [d1, d2, d3] }
  | _ => none }
def typesOpenRow : OpenClaim := { program := "ythmldhppmpbadaa", sum := "512736e0e4b3a40113040881b494deb894a842e3b4202cfd42d9177286fc9eab", func := "spinet/spinetlaw13.TypesOpen", spec := "typesOpen", recurses := true, plainKeys := false, apart := false }
def TypesOpenSaid : Prop := typesOpenRow.holds Try.pinned (OpenSpec.ofChange typesOpenSpec)

/-- ITS FALSE NEIGHBOUR: 'it returns false'. Refute it at one input. -/
def typesOpenWrong : ChangeSpec := { name := "typesOpen", fn := fun _ => fun
  | [d1, d2, d3] => { results := [.lit (.bool false)], args := [d1, d2, d3] }
  | _ => none }
def TypesOpenWrongFalsely : Prop := typesOpenRow.holds Try.pinned (OpenSpec.ofChange typesOpenWrong)

/- THE SECOND FORM. 'bulk': how many values and letters a reading holds, each counted each time it is reached (what is shared counts as often as it is met; a slice's spare places count too). A statement '..UptoSaid' is the law's where the arguments, and the package variables that the reading takes, are together of bulk at most 1048576: NARROWER than '..Said'. Prove '..Said' where nothing that the law and all that it calls make is longer than what came in: it says more and counts as full. Else prove '..UptoSaid'. A law counts once. -/
mutual
def uptoBulk {H : Type} : DataW H → Nat
  | .lit (.string bytes) => bytes.length + 1
  | .lit _ => 1
  | .nil => 1
  | .ptr d => uptoBulk d + 1
  | .slice elems spare => uptoBulkAll elems + uptoBulkAll spare + 1
  | .agg parts => uptoBulkAll parts + 1
  | .iface _ d => uptoBulk d + 1
  | .map entries => uptoBulkEntries entries + 1
  | .held _ => 1
def uptoBulkAll {H : Type} : List (DataW H) → Nat
  | [] => 0
  | d :: r => uptoBulk d + uptoBulkAll r
def uptoBulkEntries {H : Type} : List (Lit × DataW H) → Nat
  | [] => 0
  | x :: r => uptoBulkEntry x + uptoBulkEntries r
def uptoBulkEntry {H : Type} : Lit × DataW H → Nat
  | (.string bytes, d) => bytes.length + uptoBulk d + 1
  | (_, d) => uptoBulk d + 1
 end
def uptoSmall : (H : Type) → List (DataW H) → Bool := fun _ ds => decide (uptoBulkAll ds ≤ 1048576)
def OpenSpec.upto (s : _root_.Go.ChangeSpec) : _root_.Go.OpenSpec := { _root_.Go.OpenSpec.ofChange s with cond := some uptoSmall }

/-- 'spinetlaw16.IfaceGoods', WHERE WHAT IT READS IS OF BULK AT MOST 1048576: true; the input reads as it did. -/
def ifaceGoodsUptoRow : OpenClaim := { program := "ythmldhppmpbadaa", sum := "512736e0e4b3a40113040881b494deb894a842e3b4202cfd42d9177286fc9eab", func := "spinet/spinetlaw16.IfaceGoods", spec := "ifaceGoods", recurses := true, plainKeys := false, apart := false, narrowed := true }
def IfaceGoodsUptoSaid : Prop := ifaceGoodsUptoRow.holds Try.pinned (OpenSpec.upto ifaceGoodsSpec)

/-- 'spinetlaw16.IfaceTrims', WHERE WHAT IT READS IS OF BULK AT MOST 1048576: true; the input reads as it did. -/
def ifaceTrimsUptoRow : OpenClaim := { program := "ythmldhppmpbadaa", sum := "512736e0e4b3a40113040881b494deb894a842e3b4202cfd42d9177286fc9eab", func := "spinet/spinetlaw16.IfaceTrims", spec := "ifaceTrims", recurses := true, plainKeys := false, apart := false, narrowed := true }
def IfaceTrimsUptoSaid : Prop := ifaceTrimsUptoRow.holds Try.pinned (OpenSpec.upto ifaceTrimsSpec)

/-- 'spinetlaw16.IfaceSames', WHERE WHAT IT READS IS OF BULK AT MOST 1048576: true; the input reads as it did. -/
def ifaceSamesUptoRow : OpenClaim := { program := "ythmldhppmpbadaa", sum := "512736e0e4b3a40113040881b494deb894a842e3b4202cfd42d9177286fc9eab", func := "spinet/spinetlaw16.IfaceSames", spec := "ifaceSames", unfollowed := true, recurses := true, plainKeys := false, apart := false, narrowed := true }
def IfaceSamesUptoSaid : Prop := ifaceSamesUptoRow.holds Try.pinned (OpenSpec.upto ifaceSamesSpec)

/-- 'spinetlaw16.IfaceAgain', WHERE WHAT IT READS IS OF BULK AT MOST 1048576: true; the input reads as it did. -/
def ifaceAgainUptoRow : OpenClaim := { program := "ythmldhppmpbadaa", sum := "512736e0e4b3a40113040881b494deb894a842e3b4202cfd42d9177286fc9eab", func := "spinet/spinetlaw16.IfaceAgain", spec := "ifaceAgain", unfollowed := true, recurses := true, plainKeys := false, apart := false, narrowed := true }
def IfaceAgainUptoSaid : Prop := ifaceAgainUptoRow.holds Try.pinned (OpenSpec.upto ifaceAgainSpec)

/-- 'spinetlaw16.IfaceRoom', WHERE WHAT IT READS IS OF BULK AT MOST 1048576: true; the input reads as it did. -/
def ifaceRoomUptoRow : OpenClaim := { program := "ythmldhppmpbadaa", sum := "512736e0e4b3a40113040881b494deb894a842e3b4202cfd42d9177286fc9eab", func := "spinet/spinetlaw16.IfaceRoom", spec := "ifaceRoom", recurses := true, plainKeys := false, apart := false, narrowed := true }
def IfaceRoomUptoSaid : Prop := ifaceRoomUptoRow.holds Try.pinned (OpenSpec.upto ifaceRoomSpec)

/-- 'spinetlaw16.IfaceFinds', WHERE WHAT IT READS IS OF BULK AT MOST 1048576: true; the input reads as it did. -/
def ifaceFindsUptoRow : OpenClaim := { program := "ythmldhppmpbadaa", sum := "512736e0e4b3a40113040881b494deb894a842e3b4202cfd42d9177286fc9eab", func := "spinet/spinetlaw16.IfaceFinds", spec := "ifaceFinds", recurses := true, plainKeys := false, apart := false, narrowed := true }
def IfaceFindsUptoSaid : Prop := ifaceFindsUptoRow.holds Try.pinned (OpenSpec.upto ifaceFindsSpec)

/-- 'spinetlaw13.TypesRoom', WHERE WHAT IT READS IS OF BULK AT MOST 1048576: true; the input reads as it did. -/
def typesRoomUptoRow : OpenClaim := { program := "ythmldhppmpbadaa", sum := "512736e0e4b3a40113040881b494deb894a842e3b4202cfd42d9177286fc9eab", func := "spinet/spinetlaw13.TypesRoom", spec := "typesRoom", recurses := true, plainKeys := false, apart := false, narrowed := true }
def TypesRoomUptoSaid : Prop := typesRoomUptoRow.holds Try.pinned (OpenSpec.upto typesRoomSpec)

/-- 'spinetlaw13.TypesOpen', WHERE WHAT IT READS IS OF BULK AT MOST 1048576: true; the input reads as it did. -/
def typesOpenUptoRow : OpenClaim := { program := "ythmldhppmpbadaa", sum := "512736e0e4b3a40113040881b494deb894a842e3b4202cfd42d9177286fc9eab", func := "spinet/spinetlaw13.TypesOpen", spec := "typesOpen", recurses := true, plainKeys := false, apart := false, narrowed := true }
def TypesOpenUptoSaid : Prop := typesOpenUptoRow.holds Try.pinned (OpenSpec.upto typesOpenSpec)

end Rows
end Go.Proofs.Ythmldhppmpbadaa
