/- The walk of the document's Simple. -/
import Derived.Test.YtkibjbbhiclkmaaRefArea
import Derived.Test.YtkibjbbhiclkmaaRefClass
import Derived.BigQuiet
import Derived.Lib.QuietBelow
namespace Go.Proofs.Ytkibjbbhiclkmaa
open Go.RowKit Go.Sort

def clsE (L : List (Int × Int)) (i k : Nat) : Int :=
  clsI (ptA L i).1 (ptA L i).2 (ptA L ((i + 1) % L.length)).1 (ptA L ((i + 1) % L.length)).2 (ptA L k).1 (ptA L k).2 (ptA L ((k + 1) % L.length)).1 (ptA L ((k + 1) % L.length)).2
def wantE (n i k : Nat) : Int := if i = k + 1 ∨ i + 1 = k + n then 1 else 0
def rsimP (L : List (Int × Int)) : Prop :=
  3 ≤ L.length ∧ okL L = true ∧ (∀ i, i < L.length → ∀ k, k < i → ptA L i ≠ ptA L k) ∧ (∀ i, i < L.length → ∀ k, k < i → clsE L i k = wantE L.length i k)
def RsPost (L : List (Int × Int)) (w : World) (e : Ending) (w' : World) : Prop := ∃ b : Bool, e = .returned (.bool b) ∧ (b = true ↔ rsimP L) ∧ Below w.heap.size w w'
theorem rs_no {L : List (Int × Int)} (h : ¬ rsimP L) : (false = true ↔ rsimP L) := ⟨fun k => (by cases k), fun k => absurd k h⟩

end Go.Proofs.Ytkibjbbhiclkmaa
