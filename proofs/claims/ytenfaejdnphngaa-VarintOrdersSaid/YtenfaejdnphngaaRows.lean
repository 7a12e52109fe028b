/-
  No cell of these rows narrows 'for every input' (looked for: loops, veiled, ifaces, maps, wideKeys, modest, calm, conditions, laid).
  DERIVED. THE GIVEN ROWS OF THIS SEAT. 7 by the template 'for every input the law returns true; each argument reads behind the call as it read before'; 0 by the template 'total and deterministic' (their statements: YtenfaejdnphngaaTotals.lean).
  GIVEN WITH THE SEED: the statements are not yours to turn. If you find one false, say at which input.
  Laid BY PROGRAM, IN A SANDBOX (cutbox-rows.mjs): the forced cells as the released guide's own fill.sh prints them over the translation bc2e9d9be71d9404… (all of the seat's roots in one cut). By AI agents, Wed Nov 11 2026. No macro, syntax, notation, axiom, sorry.
-/
import Derived.Test.YtenfaejdnphngaaChecked
import GoSem.Claim
import GoSem.ClaimJoined
import GoSem.ClaimMapViews
import Derived.JoinedTies
import Derived.KernelRfl
namespace Go.Proofs.Ytenfaejdnphngaa
/- THE CELL 'sum', in the pinned program and in every row, IS THE sha256 OF THE DUMP (.gsa) THAT YtenfaejdnphngaaProg.lean LOADS. Nothing in Lean hashes anything: it is a label: what it is worth is what the hold of that sum in a sandbox is worth. -/
noncomputable def Try.pinned : Pinned := { name := "ytenfaejdnphngaa", sum := "bc2e9d9be71d9404bb1db59552d4012d76c472659ecec02d314834aa4b1d5c08", checked := Try.checked }
namespace Rows
def none {H : Type} : Left H := { results := [], args := [] }

/-- 'graticulelaw06.RowsMeet': WHATEVER THE INPUT: true; the input reads as it did. -/
def rowsMeetSpec : ChangeSpec := { name := "rowsMeet", fn := fun _ => fun
  | [d1, d2, d3] => { results := [.lit (.bool true)], args := [d1, d2, d3] }
  | _ => none }
def rowsMeetRow : OpenClaim := { program := "ytenfaejdnphngaa", sum := "bc2e9d9be71d9404bb1db59552d4012d76c472659ecec02d314834aa4b1d5c08", func := "graticule/graticulelaw06.RowsMeet", spec := "rowsMeet", unfollowed := true, recurses := true, plainKeys := false, apart := false }
def RowsMeetSaid : Prop := rowsMeetRow.holds Try.pinned (OpenSpec.ofChange rowsMeetSpec)

/-- ITS FALSE NEIGHBOUR: 'it returns false'. Refute it at one input. -/
def rowsMeetWrong : ChangeSpec := { name := "rowsMeet", fn := fun _ => fun
  | [d1, d2, d3] => { results := [.lit (.bool false)], args := [d1, d2, d3] }
  | _ => none }
def RowsMeetWrongFalsely : Prop := rowsMeetRow.holds Try.pinned (OpenSpec.ofChange rowsMeetWrong)

/-- 'graticulelaw06.RowsFind': WHATEVER THE INPUT: true; the input reads as it did. -/
def rowsFindSpec : ChangeSpec := { name := "rowsFind", fn := fun _ => fun
  | [d1, d2, d3, d4, d5] => { results := [.lit (.bool true)], args := [d1, d2, d3, d4, d5] }
  | _ => none }
def rowsFindRow : OpenClaim := { program := "ytenfaejdnphngaa", sum := "bc2e9d9be71d9404bb1db59552d4012d76c472659ecec02d314834aa4b1d5c08", func := "graticule/graticulelaw06.RowsFind", spec := "rowsFind", unfollowed := true, recurses := true, plainKeys := false, apart := false }
def RowsFindSaid : Prop := rowsFindRow.holds Try.pinned (OpenSpec.ofChange rowsFindSpec)

/-- ITS FALSE NEIGHBOUR: 'it returns false'. Refute it at one input. -/
def rowsFindWrong : ChangeSpec := { name := "rowsFind", fn := fun _ => fun
  | [d1, d2, d3, d4, d5] => { results := [.lit (.bool false)], args := [d1, d2, d3, d4, d5] }
  | _ => none }
def RowsFindWrongFalsely : Prop := rowsFindRow.holds Try.pinned (OpenSpec.ofChange rowsFindWrong)

/-- 'graticulelaw06.RowsNil': WHATEVER THE INPUT: true; the input reads as it did. -/
def rowsNilSpec : ChangeSpec := { name := "rowsNil", fn := fun _ => fun
  | [d1, d2, d3] => { results := [.lit (.bool true)], args := [d1, d2, d3] }
  | _ => none }
def rowsNilRow : OpenClaim := { program := "ytenfaejdnphngaa", sum := "bc2e9d9be71d9404bb1db59552d4012d76c472659ecec02d314834aa4b1d5c08", func := "graticule/graticulelaw06.RowsNil", spec := "rowsNil", unfollowed := true, recurses := true, plainKeys := false, apart := false }
def RowsNilSaid : Prop := rowsNilRow.holds Try.pinned (OpenSpec.ofChange rowsNilSpec)

/-- ITS FALSE NEIGHBOUR: 'it returns false'. Refute it at one input. -/
def rowsNilWrong : ChangeSpec := { name := "rowsNil", fn := fun _ => fun
  | [d1, d2, d3] => { results := [.lit (.bool false)], args := [d1, d2, d3] }
  | _ => none }
def RowsNilWrongFalsely : Prop := rowsNilRow.holds Try.pinned (OpenSpec.ofChange rowsNilWrong)

/-- 'graticulelaw06.RowsGrow': WHATEVER THE INPUT: true; the input reads as it did. -/
def rowsGrowSpec : ChangeSpec := { name := "rowsGrow", fn := fun _ => fun
  | [d1, d2] => { results := [.lit (.bool true)], args := [d1, d2] }
  | _ => none }
def rowsGrowRow : OpenClaim := { program := "ytenfaejdnphngaa", sum := "bc2e9d9be71d9404bb1db59552d4012d76c472659ecec02d314834aa4b1d5c08", func := "graticule/graticulelaw06.RowsGrow", spec := "rowsGrow", unfollowed := true, recurses := true, plainKeys := false, apart := false }
def RowsGrowSaid : Prop := rowsGrowRow.holds Try.pinned (OpenSpec.ofChange rowsGrowSpec)

/-- ITS FALSE NEIGHBOUR: 'it returns false'. Refute it at one input. -/
def rowsGrowWrong : ChangeSpec := { name := "rowsGrow", fn := fun _ => fun
  | [d1, d2] => { results := [.lit (.bool false)], args := [d1, d2] }
  | _ => none }
def RowsGrowWrongFalsely : Prop := rowsGrowRow.holds Try.pinned (OpenSpec.ofChange rowsGrowWrong)

/-- 'graticulelaw07.VarintBytes': WHATEVER THE INPUT: true; the input reads as it did. -/
def varintBytesSpec : ChangeSpec := { name := "varintBytes", fn := fun _ => fun
  | [d1, d2, d3] => { results := [.lit (.bool true)], args := [d1, d2, d3] }
  | _ => none }
def varintBytesRow : OpenClaim := { program := "ytenfaejdnphngaa", sum := "bc2e9d9be71d9404bb1db59552d4012d76c472659ecec02d314834aa4b1d5c08", func := "graticule/graticulelaw07.VarintBytes", spec := "varintBytes", unfollowed := true, recurses := true, plainKeys := false, apart := false }
def VarintBytesSaid : Prop := varintBytesRow.holds Try.pinned (OpenSpec.ofChange varintBytesSpec)

/-- ITS FALSE NEIGHBOUR: 'it returns false'. Refute it at one input. -/
def varintBytesWrong : ChangeSpec := { name := "varintBytes", fn := fun _ => fun
  | [d1, d2, d3] => { results := [.lit (.bool false)], args := [d1, d2, d3] }
  | _ => none }
def VarintBytesWrongFalsely : Prop := varintBytesRow.holds Try.pinned (OpenSpec.ofChange varintBytesWrong)

/-- 'graticulelaw07.VarintReads': WHATEVER THE INPUT: true; the input reads as it did. -/
def varintReadsSpec : ChangeSpec := { name := "varintReads", fn := fun _ => fun
  | [d] => { results := [.lit (.bool true)], args := [d] }
  | _ => none }
def varintReadsRow : OpenClaim := { program := "ytenfaejdnphngaa", sum := "bc2e9d9be71d9404bb1db59552d4012d76c472659ecec02d314834aa4b1d5c08", func := "graticule/graticulelaw07.VarintReads", spec := "varintReads", unfollowed := true, recurses := true, plainKeys := false, apart := false }
def VarintReadsSaid : Prop := varintReadsRow.holds Try.pinned (OpenSpec.ofChange varintReadsSpec)

/-- ITS FALSE NEIGHBOUR: 'it returns false'. Refute it at one input. -/
def varintReadsWrong : ChangeSpec := { name := "varintReads", fn := fun _ => fun
  | [d] => { results := [.lit (.bool false)], args := [d] }
  | _ => none }
def VarintReadsWrongFalsely : Prop := varintReadsRow.holds Try.pinned (OpenSpec.ofChange varintReadsWrong)

/-- 'graticulelaw07.VarintOrders': WHATEVER THE INPUT: true; the input reads as it did. -/
def varintOrdersSpec : ChangeSpec := { name := "varintOrders", fn := fun _ => fun
  | [d1, d2, d3, d4, d5] => { results := [.lit (.bool true)], args := [d1, d2, d3, d4, d5] }
  | _ => none }
def varintOrdersRow : OpenClaim := { program := "ytenfaejdnphngaa", sum := "bc2e9d9be71d9404bb1db59552d4012d76c472659ecec02d314834aa4b1d5c08", func := "graticule/graticulelaw07.VarintOrders", spec := "varintOrders", plainKeys := false, apart := false }
def VarintOrdersSaid : Prop := varintOrdersRow.holds Try.pinned (OpenSpec.ofChange varintOrdersSpec)

/-- ITS FALSE NEIGHBOUR: 'it returns false'. Refute it at one input. -/
def varintOrdersWrong : ChangeSpec := { name := "varintOrders", fn := fun _ => fun
  | [d1, d2, d3, d4, d5] => { results := [.lit (.bool false)], args := [d1, d2, d3, d4, d5] }
  | _ => none }
def VarintOrdersWrongFalsely : Prop := varintOrdersRow.holds Try.pinned (OpenSpec.ofChange varintOrdersWrong)

/- THE SECOND FORM. 'bulk': how many values and letters a reading holds, each counted each time it is reached (what is shared counts as often as it is met; a slice's spare places count too). A statement '..UptoSaid' is the law's where the arguments, and the package variables that the reading takes, are together of bulk at most 1048576: NARROWER than '..Said'. Prove '..Said' where nothing that the law and all that it calls make is longer than what came in: it says more and counts as full. Else prove '..UptoSaid'. A law counts once. -/
mutual
def uptoBulk {H : Type} : DataW H → Nat
  | .lit (.string bytes) => bytes.length + 1
  | .lit _ => 1
  | .nil => 1
  | .ptr d => uptoBulk d + 1
  | .slice elems spare => uptoBulkAll elems + uptoBulkAll spare + 1
  | .agg parts => uptoBulkAll parts + 1
  | .iface _ d => uptoBulk d + 1
  | .map entries => uptoBulkEntries entries + 1
  | .held _ => 1
def uptoBulkAll {H : Type} : List (DataW H) → Nat
  | [] => 0
  | d :: r => uptoBulk d + uptoBulkAll r
def uptoBulkEntries {H : Type} : List (Lit × DataW H) → Nat
  | [] => 0
  | x :: r => uptoBulkEntry x + uptoBulkEntries r
def uptoBulkEntry {H : Type} : Lit × DataW H → Nat
  | (.string bytes, d) => bytes.length + uptoBulk d + 1
  | (_, d) => uptoBulk d + 1
 end
def uptoSmall : (H : Type) → List (DataW H) → Bool := fun _ ds => decide (uptoBulkAll ds ≤ 1048576)
def OpenSpec.upto (s : _root_.Go.ChangeSpec) : _root_.Go.OpenSpec := { _root_.Go.OpenSpec.ofChange s with cond := some uptoSmall }

/-- 'graticulelaw06.RowsMeet', WHERE WHAT IT READS IS OF BULK AT MOST 1048576: true; the input reads as it did. -/
def rowsMeetUptoRow : OpenClaim := { program := "ytenfaejdnphngaa", sum := "bc2e9d9be71d9404bb1db59552d4012d76c472659ecec02d314834aa4b1d5c08", func := "graticule/graticulelaw06.RowsMeet", spec := "rowsMeet", unfollowed := true, recurses := true, plainKeys := false, apart := false, narrowed := true }
def RowsMeetUptoSaid : Prop := rowsMeetUptoRow.holds Try.pinned (OpenSpec.upto rowsMeetSpec)

/-- 'graticulelaw06.RowsFind', WHERE WHAT IT READS IS OF BULK AT MOST 1048576: true; the input reads as it did. -/
def rowsFindUptoRow : OpenClaim := { program := "ytenfaejdnphngaa", sum := "bc2e9d9be71d9404bb1db59552d4012d76c472659ecec02d314834aa4b1d5c08", func := "graticule/graticulelaw06.RowsFind", spec := "rowsFind", unfollowed := true, recurses := true, plainKeys := false, apart := false, narrowed := true }
def RowsFindUptoSaid : Prop := rowsFindUptoRow.holds Try.pinned (OpenSpec.upto rowsFindSpec)

/-- 'graticulelaw06.RowsNil', WHERE WHAT IT READS IS OF BULK AT MOST 1048576: true; the input reads as it did. -/
def rowsNilUptoRow : OpenClaim := { program := "ytenfaejdnphngaa", sum := "bc2e9d9be71d9404bb1db59552d4012d76c472659ecec02d314834aa4b1d5c08", func := "graticule/graticulelaw06.RowsNil", spec := "rowsNil", unfollowed := true, recurses := true, plainKeys := false, apart := false, narrowed := true }
def RowsNilUptoSaid : Prop := rowsNilUptoRow.holds Try.pinned (OpenSpec.upto rowsNilSpec)

/-- 'graticulelaw06.RowsGrow', WHERE WHAT IT READS IS OF BULK AT MOST 1048576: true; the input reads as it did. -/
def rowsGrowUptoRow : OpenClaim := { program := "ytenfaejdnphngaa", sum := "bc2e9d9be71d9404bb1db59552d4012d76c472659ecec02d314834aa4b1d5c08", func := "graticule/graticulelaw06.RowsGrow", spec := "rowsGrow", unfollowed := true, recurses := true, plainKeys := false, apart := false, narrowed := true }
def RowsGrowUptoSaid : Prop := rowsGrowUptoRow.holds Try.pinned (OpenSpec.upto rowsGrowSpec)

/-- 'graticulelaw07.VarintBytes', WHERE WHAT IT READS IS OF BULK AT MOST 1048576: true; the input reads as it did. -/
def varintBytesUptoRow : OpenClaim := { program := "ytenfaejdnphngaa", sum := "bc2e9d9be71d9404bb1db59552d4012d76c472659ecec02d314834aa4b1d5c08", func := "graticule/graticulelaw07.VarintBytes", spec := "varintBytes", unfollowed := true, recurses := true, plainKeys := false, apart := false, narrowed := true }
def VarintBytesUptoSaid : Prop := varintBytesUptoRow.holds Try.pinned (OpenSpec.upto varintBytesSpec)

/-- 'graticulelaw07.VarintReads', WHERE WHAT IT READS IS OF BULK AT MOST 1048576: true; the input reads as it did. -/
def varintReadsUptoRow : OpenClaim := { program := "ytenfaejdnphngaa", sum := "bc2e9d9be71d9404bb1db59552d4012d76c472659ecec02d314834aa4b1d5c08", func := "graticule/graticulelaw07.VarintReads", spec := "varintReads", unfollowed := true, recurses := true, plainKeys := false, apart := false, narrowed := true }
def VarintReadsUptoSaid : Prop := varintReadsUptoRow.holds Try.pinned (OpenSpec.upto varintReadsSpec)

/-- 'graticulelaw07.VarintOrders', WHERE WHAT IT READS IS OF BULK AT MOST 1048576: true; the input reads as it did. -/
def varintOrdersUptoRow : OpenClaim := { program := "ytenfaejdnphngaa", sum := "bc2e9d9be71d9404bb1db59552d4012d76c472659ecec02d314834aa4b1d5c08", func := "graticule/graticulelaw07.VarintOrders", spec := "varintOrders", plainKeys := false, apart := false, narrowed := true }
def VarintOrdersUptoSaid : Prop := varintOrdersUptoRow.holds Try.pinned (OpenSpec.upto varintOrdersSpec)

end Rows
end Go.Proofs.Ytenfaejdnphngaa
