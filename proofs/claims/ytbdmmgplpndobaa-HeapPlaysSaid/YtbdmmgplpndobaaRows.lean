/-
  No cell of these rows narrows 'for every input' (looked for: loops, veiled, ifaces, maps, wideKeys, modest, calm, conditions, laid).
  DERIVED. THE GIVEN ROWS OF THIS SEAT. 5 by the template 'for every input the law returns true; each argument reads behind the call as it read before'; 0 by the template 'total and deterministic' (their statements: YtbdmmgplpndobaaTotals.lean).
  GIVEN WITH THE SEED: the statements are not yours to turn. If you find one false, say at which input.
  Laid BY PROGRAM, IN A SANDBOX (cutbox-rows.mjs): the forced cells as the released guide's own fill.sh prints them over the translation 8644bf88b5dfd3e6… (all of the seat's roots in one cut). By AI agents, Wed Nov 11 2026. No macro, syntax, notation, axiom, sorry.
-/
import Derived.Test.YtbdmmgplpndobaaChecked
import GoSem.Claim
import GoSem.ClaimJoined
import GoSem.ClaimMapViews
import Derived.JoinedTies
import Derived.KernelRfl
namespace Go.Proofs.Ytbdmmgplpndobaa
/- THE CELL 'sum', in the pinned program and in every row, IS THE sha256 OF THE DUMP (.gsa) THAT YtbdmmgplpndobaaProg.lean LOADS. Nothing in Lean hashes anything: it is a label: what it is worth is what the hold of that sum in a sandbox is worth. -/
noncomputable def Try.pinned : Pinned := { name := "ytbdmmgplpndobaa", sum := "8644bf88b5dfd3e663022ec8ccdb5d3c56f9b36d6d50237f3bad17b9dcb0aab4", checked := Try.checked }
namespace Rows
def none {H : Type} : Left H := { results := [], args := [] }

/-- 'graticulelaw05.HeapPlays': WHATEVER THE INPUT: true; the input reads as it did. -/
def heapPlaysSpec : ChangeSpec := { name := "heapPlays", fn := fun _ => fun
  | [d] => { results := [.lit (.bool true)], args := [d] }
  | _ => none }
def heapPlaysRow : OpenClaim := { program := "ytbdmmgplpndobaa", sum := "8644bf88b5dfd3e663022ec8ccdb5d3c56f9b36d6d50237f3bad17b9dcb0aab4", func := "graticule/graticulelaw05.HeapPlays", spec := "heapPlays", unfollowed := true, recurses := true, plainKeys := false, apart := false }
def HeapPlaysSaid : Prop := heapPlaysRow.holds Try.pinned (OpenSpec.ofChange heapPlaysSpec)

/-- ITS FALSE NEIGHBOUR: 'it returns false'. Refute it at one input. -/
def heapPlaysWrong : ChangeSpec := { name := "heapPlays", fn := fun _ => fun
  | [d] => { results := [.lit (.bool false)], args := [d] }
  | _ => none }
def HeapPlaysWrongFalsely : Prop := heapPlaysRow.holds Try.pinned (OpenSpec.ofChange heapPlaysWrong)

/-- 'graticulelaw06.RowsMeet': WHATEVER THE INPUT: true; the input reads as it did. -/
def rowsMeetSpec : ChangeSpec := { name := "rowsMeet", fn := fun _ => fun
  | [d1, d2, d3] => { results := [.lit (.bool true)], args := [d1, d2, d3] }
  | _ => none }
def rowsMeetRow : OpenClaim := { program := "ytbdmmgplpndobaa", sum := "8644bf88b5dfd3e663022ec8ccdb5d3c56f9b36d6d50237f3bad17b9dcb0aab4", func := "graticule/graticulelaw06.RowsMeet", spec := "rowsMeet", unfollowed := true, recurses := true, plainKeys := false, apart := false }
def RowsMeetSaid : Prop := rowsMeetRow.holds Try.pinned (OpenSpec.ofChange rowsMeetSpec)

/-- ITS FALSE NEIGHBOUR: 'it returns false'. Refute it at one input. -/
def rowsMeetWrong : ChangeSpec := { name := "rowsMeet", fn := fun _ => fun
  | [d1, d2, d3] => { results := [.lit (.bool false)], args := [d1, d2, d3] }
  | _ => none }
def RowsMeetWrongFalsely : Prop := rowsMeetRow.holds Try.pinned (OpenSpec.ofChange rowsMeetWrong)

/-- 'graticulelaw06.RowsFind': WHATEVER THE INPUT: true; the input reads as it did. -/
def rowsFindSpec : ChangeSpec := { name := "rowsFind", fn := fun _ => fun
  | [d1, d2, d3, d4, d5] => { results := [.lit (.bool true)], args := [d1, d2, d3, d4, d5] }
  | _ => none }
def rowsFindRow : OpenClaim := { program := "ytbdmmgplpndobaa", sum := "8644bf88b5dfd3e663022ec8ccdb5d3c56f9b36d6d50237f3bad17b9dcb0aab4", func := "graticule/graticulelaw06.RowsFind", spec := "rowsFind", unfollowed := true, recurses := true, plainKeys := false, apart := false }
def RowsFindSaid : Prop := rowsFindRow.holds Try.pinned (OpenSpec.ofChange rowsFindSpec)

/-- ITS FALSE NEIGHBOUR: 'it returns false'. Refute it at one input. -/
def rowsFindWrong : ChangeSpec := { name := "rowsFind", fn := fun _ => fun
  | [d1, d2, d3, d4, d5] => { results := [.lit (.bool false)], args := [d1, d2, d3, d4, d5] }
  | _ => none }
def RowsFindWrongFalsely : Prop := rowsFindRow.holds Try.pinned (OpenSpec.ofChange rowsFindWrong)

/-- 'graticulelaw06.RowsNil': WHATEVER THE INPUT: true; the input reads as it did. -/
def rowsNilSpec : ChangeSpec := { name := "rowsNil", fn := fun _ => fun
  | [d1, d2, d3] => { results := [.lit (.bool true)], args := [d1, d2, d3] }
  | _ => none }
def rowsNilRow : OpenClaim := { program := "ytbdmmgplpndobaa", sum := "8644bf88b5dfd3e663022ec8ccdb5d3c56f9b36d6d50237f3bad17b9dcb0aab4", func := "graticule/graticulelaw06.RowsNil", spec := "rowsNil", unfollowed := true, recurses := true, plainKeys := false, apart := false }
def RowsNilSaid : Prop := rowsNilRow.holds Try.pinned (OpenSpec.ofChange rowsNilSpec)

/-- ITS FALSE NEIGHBOUR: 'it returns false'. Refute it at one input. -/
def rowsNilWrong : ChangeSpec := { name := "rowsNil", fn := fun _ => fun
  | [d1, d2, d3] => { results := [.lit (.bool false)], args := [d1, d2, d3] }
  | _ => none }
def RowsNilWrongFalsely : Prop := rowsNilRow.holds Try.pinned (OpenSpec.ofChange rowsNilWrong)

/-- 'graticulelaw06.RowsGrow': WHATEVER THE INPUT: true; the input reads as it did. -/
def rowsGrowSpec : ChangeSpec := { name := "rowsGrow", fn := fun _ => fun
  | [d1, d2] => { results := [.lit (.bool true)], args := [d1, d2] }
  | _ => none }
def rowsGrowRow : OpenClaim := { program := "ytbdmmgplpndobaa", sum := "8644bf88b5dfd3e663022ec8ccdb5d3c56f9b36d6d50237f3bad17b9dcb0aab4", func := "graticule/graticulelaw06.RowsGrow", spec := "rowsGrow", unfollowed := true, recurses := true, plainKeys := false, apart := false }
def RowsGrowSaid : Prop := rowsGrowRow.holds Try.pinned (OpenSpec.ofChange rowsGrowSpec)

/-- ITS FALSE NEIGHBOUR: 'it returns false'. Refute it at one input. -/
def rowsGrowWrong : ChangeSpec := { name := "rowsGrow", fn := fun _ => fun
  | [d1, d2] => { results := [.lit (.bool false)], args := [d1, d2] }
  | _ => none }
def RowsGrowWrongFalsely : Prop := rowsGrowRow.holds Try.pinned (OpenSpec.ofChange rowsGrowWrong)

/- THE SECOND FORM. 'bulk': how many values and letters a reading holds, each counted each time it is reached (what is shared counts as often as it is met; a slice's spare places count too). A statement '..UptoSaid' is the law's where the arguments, and the package variables that the reading takes, are together of bulk at most 1048576: NARROWER than '..Said'. Prove '..Said' where nothing that the law and all that it calls make is longer than what came in: it says more and counts as full. Else prove '..UptoSaid'. A law counts once. -/
mutual
def uptoBulk {H : Type} : DataW H → Nat
  | .lit (.string bytes) => bytes.length + 1
  | .lit _ => 1
  | .nil => 1
  | .ptr d => uptoBulk d + 1
  | .slice elems spare => uptoBulkAll elems + uptoBulkAll spare + 1
  | .agg parts => uptoBulkAll parts + 1
  | .iface _ d => uptoBulk d + 1
  | .map entries => uptoBulkEntries entries + 1
  | .held _ => 1
def uptoBulkAll {H : Type} : List (DataW H) → Nat
  | [] => 0
  | d :: r => uptoBulk d + uptoBulkAll r
def uptoBulkEntries {H : Type} : List (Lit × DataW H) → Nat
  | [] => 0
  | x :: r => uptoBulkEntry x + uptoBulkEntries r
def uptoBulkEntry {H : Type} : Lit × DataW H → Nat
  | (.string bytes, d) => bytes.length + uptoBulk d + 1
  | (_, d) => uptoBulk d + 1
 end
def uptoSmall : (H : Type) → List (DataW H) → Bool := fun _ ds => decide (uptoBulkAll ds ≤ 1048576)
def OpenSpec.upto (s : _root_.Go.ChangeSpec) : _root_.Go.OpenSpec := { _root_.Go.OpenSpec.ofChange s with cond := some uptoSmall }

/-- 'graticulelaw05.HeapPlays', WHERE WHAT IT READS IS OF BULK AT MOST 1048576: true; the input reads as it did. -/
def heapPlaysUptoRow : OpenClaim := { program := "ytbdmmgplpndobaa", sum := "8644bf88b5dfd3e663022ec8ccdb5d3c56f9b36d6d50237f3bad17b9dcb0aab4", func := "graticule/graticulelaw05.HeapPlays", spec := "heapPlays", unfollowed := true, recurses := true, plainKeys := false, apart := false, narrowed := true }
def HeapPlaysUptoSaid : Prop := heapPlaysUptoRow.holds Try.pinned (OpenSpec.upto heapPlaysSpec)

/-- 'graticulelaw06.RowsMeet', WHERE WHAT IT READS IS OF BULK AT MOST 1048576: true; the input reads as it did. -/
def rowsMeetUptoRow : OpenClaim := { program := "ytbdmmgplpndobaa", sum := "8644bf88b5dfd3e663022ec8ccdb5d3c56f9b36d6d50237f3bad17b9dcb0aab4", func := "graticule/graticulelaw06.RowsMeet", spec := "rowsMeet", unfollowed := true, recurses := true, plainKeys := false, apart := false, narrowed := true }
def RowsMeetUptoSaid : Prop := rowsMeetUptoRow.holds Try.pinned (OpenSpec.upto rowsMeetSpec)

/-- 'graticulelaw06.RowsFind', WHERE WHAT IT READS IS OF BULK AT MOST 1048576: true; the input reads as it did. -/
def rowsFindUptoRow : OpenClaim := { program := "ytbdmmgplpndobaa", sum := "8644bf88b5dfd3e663022ec8ccdb5d3c56f9b36d6d50237f3bad17b9dcb0aab4", func := "graticule/graticulelaw06.RowsFind", spec := "rowsFind", unfollowed := true, recurses := true, plainKeys := false, apart := false, narrowed := true }
def RowsFindUptoSaid : Prop := rowsFindUptoRow.holds Try.pinned (OpenSpec.upto rowsFindSpec)

/-- 'graticulelaw06.RowsNil', WHERE WHAT IT READS IS OF BULK AT MOST 1048576: true; the input reads as it did. -/
def rowsNilUptoRow : OpenClaim := { program := "ytbdmmgplpndobaa", sum := "8644bf88b5dfd3e663022ec8ccdb5d3c56f9b36d6d50237f3bad17b9dcb0aab4", func := "graticule/graticulelaw06.RowsNil", spec := "rowsNil", unfollowed := true, recurses := true, plainKeys := false, apart := false, narrowed := true }
def RowsNilUptoSaid : Prop := rowsNilUptoRow.holds Try.pinned (OpenSpec.upto rowsNilSpec)

/-- 'graticulelaw06.RowsGrow', WHERE WHAT IT READS IS OF BULK AT MOST 1048576: true; the input reads as it did. -/
def rowsGrowUptoRow : OpenClaim := { program := "ytbdmmgplpndobaa", sum := "8644bf88b5dfd3e663022ec8ccdb5d3c56f9b36d6d50237f3bad17b9dcb0aab4", func := "graticule/graticulelaw06.RowsGrow", spec := "rowsGrow", unfollowed := true, recurses := true, plainKeys := false, apart := false, narrowed := true }
def RowsGrowUptoSaid : Prop := rowsGrowUptoRow.holds Try.pinned (OpenSpec.upto rowsGrowSpec)

end Rows
end Go.Proofs.Ytbdmmgplpndobaa
