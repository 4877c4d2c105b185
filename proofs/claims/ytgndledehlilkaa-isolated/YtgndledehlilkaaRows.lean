/-
  No cell of these rows narrows 'for every input' (looked for: loops, veiled, ifaces, maps, wideKeys, modest, calm, conditions, laid).
  DERIVED. THE GIVEN ROWS OF THIS SEAT. 7 by the template 'for every input the law returns true; each argument reads behind the call as it read before'; 0 by the template 'total and deterministic' (their statements: YtgndledehlilkaaTotals.lean).
  GIVEN WITH THE SEED: the statements are not yours to turn. If you find one false, say at which input.
  Laid BY PROGRAM, IN A SANDBOX (cutbox-rows.mjs): the forced cells as the released guide's own fill.sh prints them over the translation 1c53fd00fbfec988… (all of the seat's roots in one cut). By AI agents, Wed Nov 11 2026. No macro, syntax, notation, axiom, sorry.
-/
import Derived.Test.YtgndledehlilkaaChecked
import GoSem.Claim
import GoSem.ClaimJoined
import GoSem.ClaimMapViews
import Derived.JoinedTies
import Derived.KernelRfl
namespace Go.Proofs.Ytgndledehlilkaa
/- THE CELL 'sum', in the pinned program and in every row, IS THE sha256 OF THE DUMP (.gsa) THAT YtgndledehlilkaaProg.lean LOADS. Nothing in Lean hashes anything: it is a label: what it is worth is what the hold of that sum in a sandbox is worth. -/
noncomputable def Try.pinned : Pinned := { name := "ytgndledehlilkaa", sum := "1c53fd00fbfec988ddb02359666adcc05ef59c504e33c4784b0241175d32924b", checked := Try.checked }
namespace Rows
def none {H : Type} : Left H := { results := [], args := [] }

/-- 'districtkeep.Isolated': WHATEVER THE INPUT: true; the input reads as it did. -/
def isolatedSpec : ChangeSpec := { name := "isolated", fn := fun _ => fun
  | [d] => { results := [.lit (.bool true)], args := [d] }
  | _ => none }
def isolatedRow : OpenClaim := { program := "ytgndledehlilkaa", sum := "1c53fd00fbfec988ddb02359666adcc05ef59c504e33c4784b0241175d32924b", func := "district/districtkeep.Isolated", spec := "isolated", apart := false }
def IsolatedSaid : Prop := isolatedRow.holds Try.pinned (OpenSpec.ofChange isolatedSpec)

/-- ITS FALSE NEIGHBOUR: 'it returns false'. Refute it at one input. -/
def isolatedWrong : ChangeSpec := { name := "isolated", fn := fun _ => fun
  | [d] => { results := [.lit (.bool false)], args := [d] }
  | _ => none }
def IsolatedWrongFalsely : Prop := isolatedRow.holds Try.pinned (OpenSpec.ofChange isolatedWrong)

/-- 'districtkeep.Ordered': WHATEVER THE INPUT: true; the input reads as it did. -/
def orderedSpec : ChangeSpec := { name := "ordered", fn := fun _ => fun
  | [d1, d2, d3] => { results := [.lit (.bool true)], args := [d1, d2, d3] }
  | _ => none }
def orderedRow : OpenClaim := { program := "ytgndledehlilkaa", sum := "1c53fd00fbfec988ddb02359666adcc05ef59c504e33c4784b0241175d32924b", func := "district/districtkeep.Ordered", spec := "ordered", apart := false }
def OrderedSaid : Prop := orderedRow.holds Try.pinned (OpenSpec.ofChange orderedSpec)

/-- ITS FALSE NEIGHBOUR: 'it returns false'. Refute it at one input. -/
def orderedWrong : ChangeSpec := { name := "ordered", fn := fun _ => fun
  | [d1, d2, d3] => { results := [.lit (.bool false)], args := [d1, d2, d3] }
  | _ => none }
def OrderedWrongFalsely : Prop := orderedRow.holds Try.pinned (OpenSpec.ofChange orderedWrong)

/-- 'districtkeep.Longest': WHATEVER THE INPUT: true; the input reads as it did. -/
def longestSpec : ChangeSpec := { name := "longest", fn := fun _ => fun
  | [d1, d2, d3] => { results := [.lit (.bool true)], args := [d1, d2, d3] }
  | _ => none }
def longestRow : OpenClaim := { program := "ytgndledehlilkaa", sum := "1c53fd00fbfec988ddb02359666adcc05ef59c504e33c4784b0241175d32924b", func := "district/districtkeep.Longest", spec := "longest", apart := false }
def LongestSaid : Prop := longestRow.holds Try.pinned (OpenSpec.ofChange longestSpec)

/-- ITS FALSE NEIGHBOUR: 'it returns false'. Refute it at one input. -/
def longestWrong : ChangeSpec := { name := "longest", fn := fun _ => fun
  | [d1, d2, d3] => { results := [.lit (.bool false)], args := [d1, d2, d3] }
  | _ => none }
def LongestWrongFalsely : Prop := longestRow.holds Try.pinned (OpenSpec.ofChange longestWrong)

/-- 'districtkeep.Held': WHATEVER THE INPUT: true; the input reads as it did. -/
def heldSpec : ChangeSpec := { name := "held", fn := fun _ => fun
  | [d] => { results := [.lit (.bool true)], args := [d] }
  | _ => none }
def heldRow : OpenClaim := { program := "ytgndledehlilkaa", sum := "1c53fd00fbfec988ddb02359666adcc05ef59c504e33c4784b0241175d32924b", func := "district/districtkeep.Held", spec := "held", apart := false }
def HeldSaid : Prop := heldRow.holds Try.pinned (OpenSpec.ofChange heldSpec)

/-- ITS FALSE NEIGHBOUR: 'it returns false'. Refute it at one input. -/
def heldWrong : ChangeSpec := { name := "held", fn := fun _ => fun
  | [d] => { results := [.lit (.bool false)], args := [d] }
  | _ => none }
def HeldWrongFalsely : Prop := heldRow.holds Try.pinned (OpenSpec.ofChange heldWrong)

/-- 'districtkeep.Revoked': WHATEVER THE INPUT: true; the input reads as it did. -/
def revokedSpec : ChangeSpec := { name := "revoked", fn := fun _ => fun
  | [d1, d2, d3] => { results := [.lit (.bool true)], args := [d1, d2, d3] }
  | _ => none }
def revokedRow : OpenClaim := { program := "ytgndledehlilkaa", sum := "1c53fd00fbfec988ddb02359666adcc05ef59c504e33c4784b0241175d32924b", func := "district/districtkeep.Revoked", spec := "revoked", apart := false }
def RevokedSaid : Prop := revokedRow.holds Try.pinned (OpenSpec.ofChange revokedSpec)

/-- ITS FALSE NEIGHBOUR: 'it returns false'. Refute it at one input. -/
def revokedWrong : ChangeSpec := { name := "revoked", fn := fun _ => fun
  | [d1, d2, d3] => { results := [.lit (.bool false)], args := [d1, d2, d3] }
  | _ => none }
def RevokedWrongFalsely : Prop := revokedRow.holds Try.pinned (OpenSpec.ofChange revokedWrong)

/-- 'districtkeep.Gone': WHATEVER THE INPUT: true; the input reads as it did. -/
def goneSpec : ChangeSpec := { name := "gone", fn := fun _ => fun
  | [d1, d2, d3] => { results := [.lit (.bool true)], args := [d1, d2, d3] }
  | _ => none }
def goneRow : OpenClaim := { program := "ytgndledehlilkaa", sum := "1c53fd00fbfec988ddb02359666adcc05ef59c504e33c4784b0241175d32924b", func := "district/districtkeep.Gone", spec := "gone", apart := false }
def GoneSaid : Prop := goneRow.holds Try.pinned (OpenSpec.ofChange goneSpec)

/-- ITS FALSE NEIGHBOUR: 'it returns false'. Refute it at one input. -/
def goneWrong : ChangeSpec := { name := "gone", fn := fun _ => fun
  | [d1, d2, d3] => { results := [.lit (.bool false)], args := [d1, d2, d3] }
  | _ => none }
def GoneWrongFalsely : Prop := goneRow.holds Try.pinned (OpenSpec.ofChange goneWrong)

/-- 'districtkeep.OneHop': WHATEVER THE INPUT: true; the input reads as it did. -/
def oneHopSpec : ChangeSpec := { name := "oneHop", fn := fun _ => fun
  | [d1, d2, d3] => { results := [.lit (.bool true)], args := [d1, d2, d3] }
  | _ => none }
def oneHopRow : OpenClaim := { program := "ytgndledehlilkaa", sum := "1c53fd00fbfec988ddb02359666adcc05ef59c504e33c4784b0241175d32924b", func := "district/districtkeep.OneHop", spec := "oneHop", apart := false }
def OneHopSaid : Prop := oneHopRow.holds Try.pinned (OpenSpec.ofChange oneHopSpec)

/-- ITS FALSE NEIGHBOUR: 'it returns false'. Refute it at one input. -/
def oneHopWrong : ChangeSpec := { name := "oneHop", fn := fun _ => fun
  | [d1, d2, d3] => { results := [.lit (.bool false)], args := [d1, d2, d3] }
  | _ => none }
def OneHopWrongFalsely : Prop := oneHopRow.holds Try.pinned (OpenSpec.ofChange oneHopWrong)

/- THE SECOND FORM. 'bulk': how many values and letters a reading holds, each counted each time it is reached (what is shared counts as often as it is met; a slice's spare places count too). A statement '..UptoSaid' is the law's where the arguments, and the package variables that the reading takes, are together of bulk at most 1048576: NARROWER than '..Said'. Prove '..Said' where nothing that the law and all that it calls make is longer than what came in: it says more and counts as full. Else prove '..UptoSaid'. A law counts once. -/
mutual
def uptoBulk {H : Type} : DataW H → Nat
  | .lit (.string bytes) => bytes.length + 1
  | .lit _ => 1
  | .nil => 1
  | .ptr d => uptoBulk d + 1
  | .slice elems spare => uptoBulkAll elems + uptoBulkAll spare + 1
  | .agg parts => uptoBulkAll parts + 1
  | .iface _ d => uptoBulk d + 1
  | .map entries => uptoBulkEntries entries + 1
  | .held _ => 1
def uptoBulkAll {H : Type} : List (DataW H) → Nat
  | [] => 0
  | d :: r => uptoBulk d + uptoBulkAll r
def uptoBulkEntries {H : Type} : List (Lit × DataW H) → Nat
  | [] => 0
  | x :: r => uptoBulkEntry x + uptoBulkEntries r
def uptoBulkEntry {H : Type} : Lit × DataW H → Nat
  | (.string bytes, d) => bytes.length + uptoBulk d + 1
  | (_, d) => uptoBulk d + 1
 end
def uptoSmall : (H : Type) → List (DataW H) → Bool := fun _ ds => decide (uptoBulkAll ds ≤ 1048576)
def OpenSpec.upto (s : _root_.Go.ChangeSpec) : _root_.Go.OpenSpec := { _root_.Go.OpenSpec.ofChange s with cond := some uptoSmall }

/-- 'districtkeep.Isolated', WHERE WHAT IT READS IS OF BULK AT MOST 1048576: true; the input reads as it did. -/
def isolatedUptoRow : OpenClaim := { program := "ytgndledehlilkaa", sum := "1c53fd00fbfec988ddb02359666adcc05ef59c504e33c4784b0241175d32924b", func := "district/districtkeep.Isolated", spec := "isolated", apart := false, narrowed := true }
def IsolatedUptoSaid : Prop := isolatedUptoRow.holds Try.pinned (OpenSpec.upto isolatedSpec)

/-- 'districtkeep.Ordered', WHERE WHAT IT READS IS OF BULK AT MOST 1048576: true; the input reads as it did. -/
def orderedUptoRow : OpenClaim := { program := "ytgndledehlilkaa", sum := "1c53fd00fbfec988ddb02359666adcc05ef59c504e33c4784b0241175d32924b", func := "district/districtkeep.Ordered", spec := "ordered", apart := false, narrowed := true }
def OrderedUptoSaid : Prop := orderedUptoRow.holds Try.pinned (OpenSpec.upto orderedSpec)

/-- 'districtkeep.Longest', WHERE WHAT IT READS IS OF BULK AT MOST 1048576: true; the input reads as it did. -/
def longestUptoRow : OpenClaim := { program := "ytgndledehlilkaa", sum := "1c53fd00fbfec988ddb02359666adcc05ef59c504e33c4784b0241175d32924b", func := "district/districtkeep.Longest", spec := "longest", apart := false, narrowed := true }
def LongestUptoSaid : Prop := longestUptoRow.holds Try.pinned (OpenSpec.upto longestSpec)

/-- 'districtkeep.Held', WHERE WHAT IT READS IS OF BULK AT MOST 1048576: true; the input reads as it did. -/
def heldUptoRow : OpenClaim := { program := "ytgndledehlilkaa", sum := "1c53fd00fbfec988ddb02359666adcc05ef59c504e33c4784b0241175d32924b", func := "district/districtkeep.Held", spec := "held", apart := false, narrowed := true }
def HeldUptoSaid : Prop := heldUptoRow.holds Try.pinned (OpenSpec.upto heldSpec)

/-- 'districtkeep.Revoked', WHERE WHAT IT READS IS OF BULK AT MOST 1048576: true; the input reads as it did. -/
def revokedUptoRow : OpenClaim := { program := "ytgndledehlilkaa", sum := "1c53fd00fbfec988ddb02359666adcc05ef59c504e33c4784b0241175d32924b", func := "district/districtkeep.Revoked", spec := "revoked", apart := false, narrowed := true }
def RevokedUptoSaid : Prop := revokedUptoRow.holds Try.pinned (OpenSpec.upto revokedSpec)

/-- 'districtkeep.Gone', WHERE WHAT IT READS IS OF BULK AT MOST 1048576: true; the input reads as it did. -/
def goneUptoRow : OpenClaim := { program := "ytgndledehlilkaa", sum := "1c53fd00fbfec988ddb02359666adcc05ef59c504e33c4784b0241175d32924b", func := "district/districtkeep.Gone", spec := "gone", apart := false, narrowed := true }
def GoneUptoSaid : Prop := goneUptoRow.holds Try.pinned (OpenSpec.upto goneSpec)

/-- 'districtkeep.OneHop', WHERE WHAT IT READS IS OF BULK AT MOST 1048576: true; the input reads as it did. -/
def oneHopUptoRow : OpenClaim := { program := "ytgndledehlilkaa", sum := "1c53fd00fbfec988ddb02359666adcc05ef59c504e33c4784b0241175d32924b", func := "district/districtkeep.OneHop", spec := "oneHop", apart := false, narrowed := true }
def OneHopUptoSaid : Prop := oneHopUptoRow.holds Try.pinned (OpenSpec.upto oneHopSpec)

end Rows
end Go.Proofs.Ytgndledehlilkaa
