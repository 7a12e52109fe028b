/-
  No cell of these rows narrows 'for every input' (looked for: loops, veiled, ifaces, maps, wideKeys, modest, calm, conditions, laid).
  DERIVED. THE GIVEN ROWS OF THIS SEAT. 7 by the template 'for every input the law returns true; each argument reads behind the call as it read before'; 0 by the template 'total and deterministic' (their statements: YtcbgknlklpandaaTotals.lean).
  GIVEN WITH THE SEED: the statements are not yours to turn. If you find one false, say at which input.
  Laid BY PROGRAM, IN A SANDBOX (cutbox-rows.mjs): the forced cells as the released guide's own fill.sh prints them over the translation 1dc7f7dfb208f46b… (all of the seat's roots in one cut). By AI agents, Wed Nov 11 2026. No macro, syntax, notation, axiom, sorry.
-/
import Derived.Test.YtcbgknlklpandaaChecked
import GoSem.Claim
import GoSem.ClaimJoined
import GoSem.ClaimMapViews
import Derived.JoinedTies
import Derived.KernelRfl
namespace Go.Proofs.Ytcbgknlklpandaa
/- THE CELL 'sum', in the pinned program and in every row, IS THE sha256 OF THE DUMP (.gsa) THAT YtcbgknlklpandaaProg.lean LOADS. Nothing in Lean hashes anything: it is a label: what it is worth is what the hold of that sum in a sandbox is worth. -/
noncomputable def Try.pinned : Pinned := { name := "ytcbgknlklpandaa", sum := "1dc7f7dfb208f46ba62df64a665d5bd286bdedb18dac00275dee24abf49ae8df", checked := Try.checked }
namespace Rows
def none {H : Type} : Left H := { results := [], args := [] }

/-- 'graticulelaw03.RingOnce': WHATEVER THE INPUT: true; the input reads as it did. -/
def ringOnceSpec : ChangeSpec := { name := "ringOnce", fn := fun _ => fun
  | [d1, d2] => { results := [.lit (.bool true)], args := [d1, d2] }
  | _ => none }
def ringOnceRow : OpenClaim := { program := "ytcbgknlklpandaa", sum := "1dc7f7dfb208f46ba62df64a665d5bd286bdedb18dac00275dee24abf49ae8df", func := "graticule/graticulelaw03.RingOnce", spec := "ringOnce", unfollowed := true, recurses := true, plainKeys := false, apart := false }
def RingOnceSaid : Prop := ringOnceRow.holds Try.pinned (OpenSpec.ofChange ringOnceSpec)

/-- ITS FALSE NEIGHBOUR: 'it returns false'. Refute it at one input. -/
def ringOnceWrong : ChangeSpec := { name := "ringOnce", fn := fun _ => fun
  | [d1, d2] => { results := [.lit (.bool false)], args := [d1, d2] }
  | _ => none }
def RingOnceWrongFalsely : Prop := ringOnceRow.holds Try.pinned (OpenSpec.ofChange ringOnceWrong)

/-- 'graticulelaw06.RowsFind': WHATEVER THE INPUT: true; the input reads as it did. -/
def rowsFindSpec : ChangeSpec := { name := "rowsFind", fn := fun _ => fun
  | [d1, d2, d3, d4, d5] => { results := [.lit (.bool true)], args := [d1, d2, d3, d4, d5] }
  | _ => none }
def rowsFindRow : OpenClaim := { program := "ytcbgknlklpandaa", sum := "1dc7f7dfb208f46ba62df64a665d5bd286bdedb18dac00275dee24abf49ae8df", func := "graticule/graticulelaw06.RowsFind", spec := "rowsFind", unfollowed := true, recurses := true, plainKeys := false, apart := false }
def RowsFindSaid : Prop := rowsFindRow.holds Try.pinned (OpenSpec.ofChange rowsFindSpec)

/-- ITS FALSE NEIGHBOUR: 'it returns false'. Refute it at one input. -/
def rowsFindWrong : ChangeSpec := { name := "rowsFind", fn := fun _ => fun
  | [d1, d2, d3, d4, d5] => { results := [.lit (.bool false)], args := [d1, d2, d3, d4, d5] }
  | _ => none }
def RowsFindWrongFalsely : Prop := rowsFindRow.holds Try.pinned (OpenSpec.ofChange rowsFindWrong)

/-- 'graticulelaw06.RowsGrow': WHATEVER THE INPUT: true; the input reads as it did. -/
def rowsGrowSpec : ChangeSpec := { name := "rowsGrow", fn := fun _ => fun
  | [d1, d2] => { results := [.lit (.bool true)], args := [d1, d2] }
  | _ => none }
def rowsGrowRow : OpenClaim := { program := "ytcbgknlklpandaa", sum := "1dc7f7dfb208f46ba62df64a665d5bd286bdedb18dac00275dee24abf49ae8df", func := "graticule/graticulelaw06.RowsGrow", spec := "rowsGrow", unfollowed := true, recurses := true, plainKeys := false, apart := false }
def RowsGrowSaid : Prop := rowsGrowRow.holds Try.pinned (OpenSpec.ofChange rowsGrowSpec)

/-- ITS FALSE NEIGHBOUR: 'it returns false'. Refute it at one input. -/
def rowsGrowWrong : ChangeSpec := { name := "rowsGrow", fn := fun _ => fun
  | [d1, d2] => { results := [.lit (.bool false)], args := [d1, d2] }
  | _ => none }
def RowsGrowWrongFalsely : Prop := rowsGrowRow.holds Try.pinned (OpenSpec.ofChange rowsGrowWrong)

/-- 'graticulelaw08.ProtoWrites': WHATEVER THE INPUT: true; the input reads as it did. -/
def protoWritesSpec : ChangeSpec := { name := "protoWrites", fn := fun _ => fun
  | [d] => { results := [.lit (.bool true)], args := [d] }
  | _ => none }
def protoWritesRow : OpenClaim := { program := "ytcbgknlklpandaa", sum := "1dc7f7dfb208f46ba62df64a665d5bd286bdedb18dac00275dee24abf49ae8df", func := "graticule/graticulelaw08.ProtoWrites", spec := "protoWrites", unfollowed := true, recurses := true, plainKeys := false, apart := false }
def ProtoWritesSaid : Prop := protoWritesRow.holds Try.pinned (OpenSpec.ofChange protoWritesSpec)

/-- ITS FALSE NEIGHBOUR: 'it returns false'. Refute it at one input. -/
def protoWritesWrong : ChangeSpec := { name := "protoWrites", fn := fun _ => fun
  | [d] => { results := [.lit (.bool false)], args := [d] }
  | _ => none }
def ProtoWritesWrongFalsely : Prop := protoWritesRow.holds Try.pinned (OpenSpec.ofChange protoWritesWrong)

/-- 'graticulelaw08.ProtoReads': WHATEVER THE INPUT: true; the input reads as it did. -/
def protoReadsSpec : ChangeSpec := { name := "protoReads", fn := fun _ => fun
  | [d] => { results := [.lit (.bool true)], args := [d] }
  | _ => none }
def protoReadsRow : OpenClaim := { program := "ytcbgknlklpandaa", sum := "1dc7f7dfb208f46ba62df64a665d5bd286bdedb18dac00275dee24abf49ae8df", func := "graticule/graticulelaw08.ProtoReads", spec := "protoReads", unfollowed := true, recurses := true, plainKeys := false, apart := false }
def ProtoReadsSaid : Prop := protoReadsRow.holds Try.pinned (OpenSpec.ofChange protoReadsSpec)

/-- ITS FALSE NEIGHBOUR: 'it returns false'. Refute it at one input. -/
def protoReadsWrong : ChangeSpec := { name := "protoReads", fn := fun _ => fun
  | [d] => { results := [.lit (.bool false)], args := [d] }
  | _ => none }
def ProtoReadsWrongFalsely : Prop := protoReadsRow.holds Try.pinned (OpenSpec.ofChange protoReadsWrong)

/-- 'graticulelaw08.ProtoOnly': WHATEVER THE INPUT: true; the input reads as it did. -/
def protoOnlySpec : ChangeSpec := { name := "protoOnly", fn := fun _ => fun
  | [d1, d2, d3] => { results := [.lit (.bool true)], args := [d1, d2, d3] }
  | _ => none }
def protoOnlyRow : OpenClaim := { program := "ytcbgknlklpandaa", sum := "1dc7f7dfb208f46ba62df64a665d5bd286bdedb18dac00275dee24abf49ae8df", func := "graticule/graticulelaw08.ProtoOnly", spec := "protoOnly", unfollowed := true, recurses := true, plainKeys := false, apart := false }
def ProtoOnlySaid : Prop := protoOnlyRow.holds Try.pinned (OpenSpec.ofChange protoOnlySpec)

/-- ITS FALSE NEIGHBOUR: 'it returns false'. Refute it at one input. -/
def protoOnlyWrong : ChangeSpec := { name := "protoOnly", fn := fun _ => fun
  | [d1, d2, d3] => { results := [.lit (.bool false)], args := [d1, d2, d3] }
  | _ => none }
def ProtoOnlyWrongFalsely : Prop := protoOnlyRow.holds Try.pinned (OpenSpec.ofChange protoOnlyWrong)

/-- 'graticulelaw08.ProtoJoins': WHATEVER THE INPUT: true; the input reads as it did. -/
def protoJoinsSpec : ChangeSpec := { name := "protoJoins", fn := fun _ => fun
  | [d1, d2, d3] => { results := [.lit (.bool true)], args := [d1, d2, d3] }
  | _ => none }
def protoJoinsRow : OpenClaim := { program := "ytcbgknlklpandaa", sum := "1dc7f7dfb208f46ba62df64a665d5bd286bdedb18dac00275dee24abf49ae8df", func := "graticule/graticulelaw08.ProtoJoins", spec := "protoJoins", unfollowed := true, recurses := true, plainKeys := false, apart := false }
def ProtoJoinsSaid : Prop := protoJoinsRow.holds Try.pinned (OpenSpec.ofChange protoJoinsSpec)

/-- ITS FALSE NEIGHBOUR: 'it returns false'. Refute it at one input. -/
def protoJoinsWrong : ChangeSpec := { name := "protoJoins", fn := fun _ => fun
  | [d1, d2, d3] => { results := [.lit (.bool false)], args := [d1, d2, d3] }
  | _ => none }
def ProtoJoinsWrongFalsely : Prop := protoJoinsRow.holds Try.pinned (OpenSpec.ofChange protoJoinsWrong)

/- THE SECOND FORM. 'bulk': how many values and letters a reading holds, each counted each time it is reached (what is shared counts as often as it is met; a slice's spare places count too). A statement '..UptoSaid' is the law's where the arguments, and the package variables that the reading takes, are together of bulk at most 1048576: NARROWER than '..Said'. Prove '..Said' where nothing that the law and all that it calls make is longer than what came in: it says more and counts as full. Else prove '..UptoSaid'. A law counts once. -/
mutual
def uptoBulk {H : Type} : DataW H → Nat
  | .lit (.string bytes) => bytes.length + 1
  | .lit _ => 1
  | .nil => 1
  | .ptr d => uptoBulk d + 1
  | .slice elems spare => uptoBulkAll elems + uptoBulkAll spare + 1
  | .agg parts => uptoBulkAll parts + 1
  | .iface _ d => uptoBulk d + 1
  | .map entries => uptoBulkEntries entries + 1
  | .held _ => 1
def uptoBulkAll {H : Type} : List (DataW H) → Nat
  | [] => 0
  | d :: r => uptoBulk d + uptoBulkAll r
def uptoBulkEntries {H : Type} : List (Lit × DataW H) → Nat
  | [] => 0
  | x :: r => uptoBulkEntry x + uptoBulkEntries r
def uptoBulkEntry {H : Type} : Lit × DataW H → Nat
  | (.string bytes, d) => bytes.length + uptoBulk d + 1
  | (_, d) => uptoBulk d + 1
 end
def uptoSmall : (H : Type) → List (DataW H) → Bool := fun _ ds => decide (uptoBulkAll ds ≤ 1048576)
def OpenSpec.upto (s : _root_.Go.ChangeSpec) : _root_.Go.OpenSpec := { _root_.Go.OpenSpec.ofChange s with cond := some uptoSmall }

/-- 'graticulelaw03.RingOnce', WHERE WHAT IT READS IS OF BULK AT MOST 1048576: true; the input reads as it did. -/
def ringOnceUptoRow : OpenClaim := { program := "ytcbgknlklpandaa", sum := "1dc7f7dfb208f46ba62df64a665d5bd286bdedb18dac00275dee24abf49ae8df", func := "graticule/graticulelaw03.RingOnce", spec := "ringOnce", unfollowed := true, recurses := true, plainKeys := false, apart := false, narrowed := true }
def RingOnceUptoSaid : Prop := ringOnceUptoRow.holds Try.pinned (OpenSpec.upto ringOnceSpec)

/-- 'graticulelaw06.RowsFind', WHERE WHAT IT READS IS OF BULK AT MOST 1048576: true; the input reads as it did. -/
def rowsFindUptoRow : OpenClaim := { program := "ytcbgknlklpandaa", sum := "1dc7f7dfb208f46ba62df64a665d5bd286bdedb18dac00275dee24abf49ae8df", func := "graticule/graticulelaw06.RowsFind", spec := "rowsFind", unfollowed := true, recurses := true, plainKeys := false, apart := false, narrowed := true }
def RowsFindUptoSaid : Prop := rowsFindUptoRow.holds Try.pinned (OpenSpec.upto rowsFindSpec)

/-- 'graticulelaw06.RowsGrow', WHERE WHAT IT READS IS OF BULK AT MOST 1048576: true; the input reads as it did. -/
def rowsGrowUptoRow : OpenClaim := { program := "ytcbgknlklpandaa", sum := "1dc7f7dfb208f46ba62df64a665d5bd286bdedb18dac00275dee24abf49ae8df", func := "graticule/graticulelaw06.RowsGrow", spec := "rowsGrow", unfollowed := true, recurses := true, plainKeys := false, apart := false, narrowed := true }
def RowsGrowUptoSaid : Prop := rowsGrowUptoRow.holds Try.pinned (OpenSpec.upto rowsGrowSpec)

/-- 'graticulelaw08.ProtoWrites', WHERE WHAT IT READS IS OF BULK AT MOST 1048576: true; the input reads as it did. -/
def protoWritesUptoRow : OpenClaim := { program := "ytcbgknlklpandaa", sum := "1dc7f7dfb208f46ba62df64a665d5bd286bdedb18dac00275dee24abf49ae8df", func := "graticule/graticulelaw08.ProtoWrites", spec := "protoWrites", unfollowed := true, recurses := true, plainKeys := false, apart := false, narrowed := true }
def ProtoWritesUptoSaid : Prop := protoWritesUptoRow.holds Try.pinned (OpenSpec.upto protoWritesSpec)

/-- 'graticulelaw08.ProtoReads', WHERE WHAT IT READS IS OF BULK AT MOST 1048576: true; the input reads as it did. -/
def protoReadsUptoRow : OpenClaim := { program := "ytcbgknlklpandaa", sum := "1dc7f7dfb208f46ba62df64a665d5bd286bdedb18dac00275dee24abf49ae8df", func := "graticule/graticulelaw08.ProtoReads", spec := "protoReads", unfollowed := true, recurses := true, plainKeys := false, apart := false, narrowed := true }
def ProtoReadsUptoSaid : Prop := protoReadsUptoRow.holds Try.pinned (OpenSpec.upto protoReadsSpec)

/-- 'graticulelaw08.ProtoOnly', WHERE WHAT IT READS IS OF BULK AT MOST 1048576: true; the input reads as it did. -/
def protoOnlyUptoRow : OpenClaim := { program := "ytcbgknlklpandaa", sum := "1dc7f7dfb208f46ba62df64a665d5bd286bdedb18dac00275dee24abf49ae8df", func := "graticule/graticulelaw08.ProtoOnly", spec := "protoOnly", unfollowed := true, recurses := true, plainKeys := false, apart := false, narrowed := true }
def ProtoOnlyUptoSaid : Prop := protoOnlyUptoRow.holds Try.pinned (OpenSpec.upto protoOnlySpec)

/-- 'graticulelaw08.ProtoJoins', WHERE WHAT IT READS IS OF BULK AT MOST 1048576: true; the input reads as it did. -/
def protoJoinsUptoRow : OpenClaim := { program := "ytcbgknlklpandaa", sum := "1dc7f7dfb208f46ba62df64a665d5bd286bdedb18dac00275dee24abf49ae8df", func := "graticule/graticulelaw08.ProtoJoins", spec := "protoJoins", unfollowed := true, recurses := true, plainKeys := false, apart := false, narrowed := true }
def ProtoJoinsUptoSaid : Prop := protoJoinsUptoRow.holds Try.pinned (OpenSpec.upto protoJoinsSpec)

end Rows
end Go.Proofs.Ytcbgknlklpandaa
