/- Walks of InTriangle, and of the document's In. -/
import Derived.Test.YtmhmccicnebhaaaSide
namespace Go.Proofs.Ytmhmccicnebhaaa
open Go.RowKit

theorem ok4_parts {ax ay bx b_y cx cy px py : Int} (h : ok4 ax ay bx b_y cx cy px py = true) :
    ok3 ax ay bx b_y cx cy = true ∧ ok3 ax ay bx b_y px py = true ∧ ok3 bx b_y cx cy px py = true ∧ ok3 cx cy ax ay px py = true := by
  simp only [ok4, ok3, Bool.and_eq_true] at *
  simp [h]
theorem onV_ok {ax ay bx b_y px py : Int} (h : ok3 ax ay bx b_y px py = true) : onV ax ay bx b_y px py = onI ax ay bx b_y px py := by
  unfold onV; rw [h, Bool.true_and]

def inB (ax ay bx b_y cx cy px py : Int) : Bool :=
  if crI ax ay bx b_y cx cy = 0 then onI ax ay bx b_y px py || onI bx b_y cx cy px py
  else (sgn (crI ax ay bx b_y px py) != - sgn (crI ax ay bx b_y cx cy)) && (sgn (crI bx b_y cx cy px py) != - sgn (crI ax ay bx b_y cx cy)) && (sgn (crI cx cy ax ay px py) != - sgn (crI ax ay bx b_y cx cy))
def inV (ax ay bx b_y cx cy px py : Int) : Bool := ok4 ax ay bx b_y cx cy px py && inB ax ay bx b_y cx cy px py

theorem sgn_in (n : Int) : -1 ≤ sgn n ∧ sgn n ≤ 1 := by unfold sgn; split <;> (try split) <;> omega

end Go.Proofs.Ytmhmccicnebhaaa
