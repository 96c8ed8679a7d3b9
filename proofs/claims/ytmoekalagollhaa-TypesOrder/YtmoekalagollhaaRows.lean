/-
  No cell of these rows narrows 'for every input' (looked for: loops, veiled, ifaces, maps, wideKeys, modest, calm, conditions, laid).
  DERIVED. THE GIVEN ROWS OF THIS SEAT. 9 by the template 'for every input the law returns true; each argument reads behind the call as it read before'; 0 by the template 'total and deterministic' (their statements: YtmoekalagollhaaTotals.lean).
  GIVEN WITH THE SEED: the statements are not yours to turn. If you find one false, say at which input.
  Laid BY PROGRAM, IN A SANDBOX (cutbox-rows.mjs): the forced cells as the released guide's own fill.sh prints them over the translation 7bfeaa8c3b37e734… (all of the seat's roots in one cut). By AI agents, Wed Nov 11 2026. No macro, syntax, notation, axiom, sorry.
-/
import Derived.Test.YtmoekalagollhaaChecked
import GoSem.Claim
import GoSem.ClaimJoined
import GoSem.ClaimMapViews
import Derived.JoinedTies
import Derived.KernelRfl
namespace Go.Proofs.Ytmoekalagollhaa
/- THE CELL 'sum', in the pinned program and in every row, IS THE sha256 OF THE DUMP (.gsa) THAT YtmoekalagollhaaProg.lean LOADS. Nothing in Lean hashes anything: it is a label: what it is worth is what the hold of that sum in a sandbox is worth. -/
noncomputable def Try.pinned : Pinned := { name := "ytmoekalagollhaa", sum := "7bfeaa8c3b37e73452fad85603ae58bc9b9d092e5e1b6c6afd94bbc88ed07c6f", checked := Try.checked }
namespace Rows
def none {H : Type} : Left H := { results := [], args := [] }

/-- 'spinetlaw13.TypesGoods': WHATEVER THE INPUT: true; the input reads as it did. -/
def typesGoodsSpec : ChangeSpec := { name := "typesGoods", fn := fun _ => fun
  | [d] => { results := [.lit (.bool true)], args := [d] }
  | _ => none }
def typesGoodsRow : OpenClaim := { program := "ytmoekalagollhaa", sum := "7bfeaa8c3b37e73452fad85603ae58bc9b9d092e5e1b6c6afd94bbc88ed07c6f", func := "spinet/spinetlaw13.TypesGoods", spec := "typesGoods", recurses := true, plainKeys := false, apart := false }
def TypesGoodsSaid : Prop := typesGoodsRow.holds Try.pinned (OpenSpec.ofChange typesGoodsSpec)

/-- ITS FALSE NEIGHBOUR: 'it returns false'. Refute it at one input. -/
def typesGoodsWrong : ChangeSpec := { name := "typesGoods", fn := fun _ => fun
  | [d] => { results := [.lit (.bool false)], args := [d] }
  | _ => none }
def TypesGoodsWrongFalsely : Prop := typesGoodsRow.holds Try.pinned (OpenSpec.ofChange typesGoodsWrong)

/-- 'spinetlaw13.TypesOrder': WHATEVER THE INPUT: true; the input reads as it did. -/
def typesOrderSpec : ChangeSpec := { name := "typesOrder", fn := fun _ => fun
  | [d1, d2, d3] => { results := [.lit (.bool true)], args := [d1, d2, d3] }
  | _ => none }
def typesOrderRow : OpenClaim := { program := "ytmoekalagollhaa", sum := "7bfeaa8c3b37e73452fad85603ae58bc9b9d092e5e1b6c6afd94bbc88ed07c6f", func := "spinet/spinetlaw13.TypesOrder", spec := "typesOrder", recurses := true, plainKeys := false, apart := false }
def TypesOrderSaid : Prop := typesOrderRow.holds Try.pinned (OpenSpec.ofChange typesOrderSpec)

/-- ITS FALSE NEIGHBOUR: 'it returns false'. Refute it at one input. -/
def typesOrderWrong : ChangeSpec := { name := "typesOrder", fn := fun _ => fun
  | [d1, d2, d3] => { results := [.lit (.bool false)], args := [d1, d2, d3] }
  | _ => none }
def TypesOrderWrongFalsely : Prop := typesOrderRow.holds Try.pinned (OpenSpec.ofChange typesOrderWrong)

/-- 'spinetlaw13.TypesRoom': WHATEVER THE INPUT: true; the input reads as it did. -/
def typesRoomSpec : ChangeSpec := { name := "typesRoom", fn := fun _ => fun
  | [d1, d2, d3] => { results := [.lit (.bool true)], args := [d1, d2, d3] }
  | _ => none }
def typesRoomRow : OpenClaim := { program := "ytmoekalagollhaa", sum := "7bfeaa8c3b37e73452fad85603ae58bc9b9d092e5e1b6c6afd94bbc88ed07c6f", func := "spinet/spinetlaw13.TypesRoom", spec := "typesRoom", recurses := true, plainKeys := false, apart := false }
def TypesRoomSaid : Prop := typesRoomRow.holds Try.pinned (OpenSpec.ofChange typesRoomSpec)

/-- ITS FALSE NEIGHBOUR: 'it returns false'. Refute it at one input. -/
def typesRoomWrong : ChangeSpec := { name := "typesRoom", fn := fun _ => fun
  | [d1, d2, d3] => { results := [.lit (.bool false)], args := [d1, d2, d3] }
  | _ => none }
def TypesRoomWrongFalsely : Prop := typesRoomRow.holds Try.pinned (OpenSpec.ofChange typesRoomWrong)

/-- 'spinetlaw13.TypesOpen': WHATEVER THE INPUT: true; the input reads as it did. -/
def typesOpenSpec : ChangeSpec := { name := "typesOpen", fn := fun _ => fun
  | [d1, d2, d3] => { results := [.lit (.bool true)], args := [d1, d2, d3] }
  | _ => none }
def typesOpenRow : OpenClaim := { program := "ytmoekalagollhaa", sum := "7bfeaa8c3b37e73452fad85603ae58bc9b9d092e5e1b6c6afd94bbc88ed07c6f", func := "spinet/spinetlaw13.TypesOpen", spec := "typesOpen", recurses := true, plainKeys := false, apart := false }
def TypesOpenSaid : Prop := typesOpenRow.holds Try.pinned (OpenSpec.ofChange typesOpenSpec)

/-- ITS FALSE NEIGHBOUR: 'it returns false'. Refute it at one input. -/
def typesOpenWrong : ChangeSpec := { name := "typesOpen", fn := fun _ => fun
  | [d1, d2, d3] => { results := [.lit (.bool false)], args := [d1, d2, d3] }
  | _ => none }
def TypesOpenWrongFalsely : Prop := typesOpenRow.holds Try.pinned (OpenSpec.ofChange typesOpenWrong)

/-- 'spinetlaw15.ScopePlays': WHATEVER THE INPUT: true; the input reads as it did. -/
def scopePlaysSpec : ChangeSpec := { name := "scopePlays", fn := fun _ => fun
  | [d] => { results := [.lit (.bool true)], args := [d] }
  | _ => none }
def scopePlaysRow : OpenClaim := { program := "ytmoekalagollhaa", sum := "7bfeaa8c3b37e73452fad85603ae58bc9b9d092e5e1b6c6afd94bbc88ed07c6f", func := "spinet/spinetlaw15.ScopePlays", spec := "scopePlays", plainKeys := false, apart := false }
def ScopePlaysSaid : Prop := scopePlaysRow.holds Try.pinned (OpenSpec.ofChange scopePlaysSpec)

/-- ITS FALSE NEIGHBOUR: 'it returns false'. Refute it at one input. -/
def scopePlaysWrong : ChangeSpec := { name := "scopePlays", fn := fun _ => fun
  | [d] => { results := [.lit (.bool false)], args := [d] }
  | _ => none }
def ScopePlaysWrongFalsely : Prop := scopePlaysRow.holds Try.pinned (OpenSpec.ofChange scopePlaysWrong)

/-- 'spinetlaw15.ScopeBack': WHATEVER THE INPUT: true; the input reads as it did. -/
def scopeBackSpec : ChangeSpec := { name := "scopeBack", fn := fun _ => fun
  | [d1, d2] => { results := [.lit (.bool true)], args := [d1, d2] }
  | _ => none }
def scopeBackRow : OpenClaim := { program := "ytmoekalagollhaa", sum := "7bfeaa8c3b37e73452fad85603ae58bc9b9d092e5e1b6c6afd94bbc88ed07c6f", func := "spinet/spinetlaw15.ScopeBack", spec := "scopeBack", plainKeys := false, apart := false }
def ScopeBackSaid : Prop := scopeBackRow.holds Try.pinned (OpenSpec.ofChange scopeBackSpec)

/-- ITS FALSE NEIGHBOUR: 'it returns false'. Refute it at one input. -/
def scopeBackWrong : ChangeSpec := { name := "scopeBack", fn := fun _ => fun
  | [d1, d2] => { results := [.lit (.bool false)], args := [d1, d2] }
  | _ => none }
def ScopeBackWrongFalsely : Prop := scopeBackRow.holds Try.pinned (OpenSpec.ofChange scopeBackWrong)

/-- 'spinetlaw15.ScopeNone': WHATEVER THE INPUT: true; the input reads as it did. -/
def scopeNoneSpec : ChangeSpec := { name := "scopeNone", fn := fun _ => fun
  | [d1, d2] => { results := [.lit (.bool true)], args := [d1, d2] }
  | _ => none }
def scopeNoneRow : OpenClaim := { program := "ytmoekalagollhaa", sum := "7bfeaa8c3b37e73452fad85603ae58bc9b9d092e5e1b6c6afd94bbc88ed07c6f", func := "spinet/spinetlaw15.ScopeNone", spec := "scopeNone", plainKeys := false, apart := false }
def ScopeNoneSaid : Prop := scopeNoneRow.holds Try.pinned (OpenSpec.ofChange scopeNoneSpec)

/-- ITS FALSE NEIGHBOUR: 'it returns false'. Refute it at one input. -/
def scopeNoneWrong : ChangeSpec := { name := "scopeNone", fn := fun _ => fun
  | [d1, d2] => { results := [.lit (.bool false)], args := [d1, d2] }
  | _ => none }
def ScopeNoneWrongFalsely : Prop := scopeNoneRow.holds Try.pinned (OpenSpec.ofChange scopeNoneWrong)

/-- 'spinetlaw15.ScopeDeep': WHATEVER THE INPUT: true; the input reads as it did. -/
def scopeDeepSpec : ChangeSpec := { name := "scopeDeep", fn := fun _ => fun
  | [d] => { results := [.lit (.bool true)], args := [d] }
  | _ => none }
def scopeDeepRow : OpenClaim := { program := "ytmoekalagollhaa", sum := "7bfeaa8c3b37e73452fad85603ae58bc9b9d092e5e1b6c6afd94bbc88ed07c6f", func := "spinet/spinetlaw15.ScopeDeep", spec := "scopeDeep", plainKeys := false, apart := false }
def ScopeDeepSaid : Prop := scopeDeepRow.holds Try.pinned (OpenSpec.ofChange scopeDeepSpec)

/-- ITS FALSE NEIGHBOUR: 'it returns false'. Refute it at one input. -/
def scopeDeepWrong : ChangeSpec := { name := "scopeDeep", fn := fun _ => fun
  | [d] => { results := [.lit (.bool false)], args := [d] }
  | _ => none }
def ScopeDeepWrongFalsely : Prop := scopeDeepRow.holds Try.pinned (OpenSpec.ofChange scopeDeepWrong)

/-- 'spinetlaw15.ScopeFull': WHATEVER THE INPUT: true; the input reads as it did. -/
def scopeFullSpec : ChangeSpec := { name := "scopeFull", fn := fun _ => fun
  | [d1, d2] => { results := [.lit (.bool true)], args := [d1, d2] }
  | _ => none }
def scopeFullRow : OpenClaim := { program := "ytmoekalagollhaa", sum := "7bfeaa8c3b37e73452fad85603ae58bc9b9d092e5e1b6c6afd94bbc88ed07c6f", func := "spinet/spinetlaw15.ScopeFull", spec := "scopeFull", plainKeys := false, apart := false }
def ScopeFullSaid : Prop := scopeFullRow.holds Try.pinned (OpenSpec.ofChange scopeFullSpec)

/-- ITS FALSE NEIGHBOUR: 'it returns false'. Refute it at one input. -/
def scopeFullWrong : ChangeSpec := { name := "scopeFull", fn := fun _ => fun
  | [d1, d2] => { results := [.lit (.bool false)], args := [d1, d2] }
  | _ => none }
def ScopeFullWrongFalsely : Prop := scopeFullRow.holds Try.pinned (OpenSpec.ofChange scopeFullWrong)

/- THE SECOND FORM. 'bulk': how many values and letters a reading holds, each counted each time it is reached (what is shared counts as often as it is met; a slice's spare places count too). A statement '..UptoSaid' is the law's where the arguments, and the package variables that the reading takes, are together of bulk at most 1048576: NARROWER than '..Said'. Prove '..Said' where nothing that the law and all that it calls make is longer than what came in: it says more and counts as full. Else prove '..UptoSaid'. A law counts once. -/
mutual
def uptoBulk {H : Type} : DataW H → Nat
  | .lit (.string bytes) => bytes.length + 1
  | .lit _ => 1
  | .nil => 1
  | .ptr d => uptoBulk d + 1
  | .slice elems spare => uptoBulkAll elems + uptoBulkAll spare + 1
  | .agg parts => uptoBulkAll parts + 1
  | .iface _ d => uptoBulk d + 1
  | .map entries => uptoBulkEntries entries + 1
  | .held _ => 1
def uptoBulkAll {H : Type} : List (DataW H) → Nat
  | [] => 0
  | d :: r => uptoBulk d + uptoBulkAll r
def uptoBulkEntries {H : Type} : List (Lit × DataW H) → Nat
  | [] => 0
  | x :: r => uptoBulkEntry x + uptoBulkEntries r
def uptoBulkEntry {H : Type} : Lit × DataW H → Nat
  | (.string bytes, d) => bytes.length + uptoBulk d + 1
  | (_, d) => uptoBulk d + 1
 end
def uptoSmall : (H : Type) → List (DataW H) → Bool := fun _ ds => decide (uptoBulkAll ds ≤ 1048576)
def OpenSpec.upto (s : _root_.Go.ChangeSpec) : _root_.Go.OpenSpec := { _root_.Go.OpenSpec.ofChange s with cond := some uptoSmall }

/-- 'spinetlaw13.TypesGoods', WHERE WHAT IT READS IS OF BULK AT MOST 1048576: true; the input reads as it did. -/
def typesGoodsUptoRow : OpenClaim := { program := "ytmoekalagollhaa", sum := "7bfeaa8c3b37e73452fad85603ae58bc9b9d092e5e1b6c6afd94bbc88ed07c6f", func := "spinet/spinetlaw13.TypesGoods", spec := "typesGoods", recurses := true, plainKeys := false, apart := false, narrowed := true }
def TypesGoodsUptoSaid : Prop := typesGoodsUptoRow.holds Try.pinned (OpenSpec.upto typesGoodsSpec)

/-- 'spinetlaw13.TypesOrder', WHERE WHAT IT READS IS OF BULK AT MOST 1048576: true; the input reads as it did. -/
def typesOrderUptoRow : OpenClaim := { program := "ytmoekalagollhaa", sum := "7bfeaa8c3b37e73452fad85603ae58bc9b9d092e5e1b6c6afd94bbc88ed07c6f", func := "spinet/spinetlaw13.TypesOrder", spec := "typesOrder", recurses := true, plainKeys := false, apart := false, narrowed := true }
def TypesOrderUptoSaid : Prop := typesOrderUptoRow.holds Try.pinned (OpenSpec.upto typesOrderSpec)

/-- 'spinetlaw13.TypesRoom', WHERE WHAT IT READS IS OF BULK AT MOST 1048576: true; the input reads as it did. -/
def typesRoomUptoRow : OpenClaim := { program := "ytmoekalagollhaa", sum := "7bfeaa8c3b37e73452fad85603ae58bc9b9d092e5e1b6c6afd94bbc88ed07c6f", func := "spinet/spinetlaw13.TypesRoom", spec := "typesRoom", recurses := true, plainKeys := false, apart := false, narrowed := true }
def TypesRoomUptoSaid : Prop := typesRoomUptoRow.holds Try.pinned (OpenSpec.upto typesRoomSpec)

/-- 'spinetlaw13.TypesOpen', WHERE WHAT IT READS IS OF BULK AT MOST 1048576: true; the input reads as it did. -/
def typesOpenUptoRow : OpenClaim := { program := "ytmoekalagollhaa", sum := "7bfeaa8c3b37e73452fad85603ae58bc9b9d092e5e1b6c6afd94bbc88ed07c6f", func := "spinet/spinetlaw13.TypesOpen", spec := "typesOpen", recurses := true, plainKeys := false, apart := false, narrowed := true }
def TypesOpenUptoSaid : Prop := typesOpenUptoRow.holds Try.pinned (OpenSpec.upto typesOpenSpec)

/-- 'spinetlaw15.ScopePlays', WHERE WHAT IT READS IS OF BULK AT MOST 1048576: true; the input reads as it did. -/
def scopePlaysUptoRow : OpenClaim := { program := "ytmoekalagollhaa", sum := "7bfeaa8c3b37e73452fad85603ae58bc9b9d092e5e1b6c6afd94bbc88ed07c6f", func := "spinet/spinetlaw15.ScopePlays", spec := "scopePlays", plainKeys := false, apart := false, narrowed := true }
def ScopePlaysUptoSaid : Prop := scopePlaysUptoRow.holds Try.pinned (OpenSpec.upto scopePlaysSpec)

/-- 'spinetlaw15.ScopeBack', WHERE WHAT IT READS IS OF BULK AT MOST 1048576: true; the input reads as it did. -/
def scopeBackUptoRow : OpenClaim := { program := "ytmoekalagollhaa", sum := "7bfeaa8c3b37e73452fad85603ae58bc9b9d092e5e1b6c6afd94bbc88ed07c6f", func := "spinet/spinetlaw15.ScopeBack", spec := "scopeBack", plainKeys := false, apart := false, narrowed := true }
def ScopeBackUptoSaid : Prop := scopeBackUptoRow.holds Try.pinned (OpenSpec.upto scopeBackSpec)

/-- 'spinetlaw15.ScopeNone', WHERE WHAT IT READS IS OF BULK AT MOST 1048576: true; the input reads as it did. -/
def scopeNoneUptoRow : OpenClaim := { program := "ytmoekalagollhaa", sum := "7bfeaa8c3b37e73452fad85603ae58bc9b9d092e5e1b6c6afd94bbc88ed07c6f", func := "spinet/spinetlaw15.ScopeNone", spec := "scopeNone", plainKeys := false, apart := false, narrowed := true }
def ScopeNoneUptoSaid : Prop := scopeNoneUptoRow.holds Try.pinned (OpenSpec.upto scopeNoneSpec)

/-- 'spinetlaw15.ScopeDeep', WHERE WHAT IT READS IS OF BULK AT MOST 1048576: true; the input reads as it did. -/
def scopeDeepUptoRow : OpenClaim := { program := "ytmoekalagollhaa", sum := "7bfeaa8c3b37e73452fad85603ae58bc9b9d092e5e1b6c6afd94bbc88ed07c6f", func := "spinet/spinetlaw15.ScopeDeep", spec := "scopeDeep", plainKeys := false, apart := false, narrowed := true }
def ScopeDeepUptoSaid : Prop := scopeDeepUptoRow.holds Try.pinned (OpenSpec.upto scopeDeepSpec)

/-- 'spinetlaw15.ScopeFull', WHERE WHAT IT READS IS OF BULK AT MOST 1048576: true; the input reads as it did. -/
def scopeFullUptoRow : OpenClaim := { program := "ytmoekalagollhaa", sum := "7bfeaa8c3b37e73452fad85603ae58bc9b9d092e5e1b6c6afd94bbc88ed07c6f", func := "spinet/spinetlaw15.ScopeFull", spec := "scopeFull", plainKeys := false, apart := false, narrowed := true }
def ScopeFullUptoSaid : Prop := scopeFullUptoRow.holds Try.pinned (OpenSpec.upto scopeFullSpec)

end Rows
end Go.Proofs.Ytmoekalagollhaa
