/- The class of two segments, told the other way round. -/
import Derived.Test.YtkibjbbhiclkmaaSegWalk
import Derived.Test.YtkibjbbhiclkmaaSegSym
namespace Go.Proofs.Ytkibjbbhiclkmaa
open Go.RowKit

theorem ok4_swap2 (ax ay bx b_y cx cy dx dy : Int) : ok4 cx cy dx dy ax ay bx b_y = ok4 ax ay bx b_y cx cy dx dy := by
  unfold ok4; cases okp ax ay <;> cases okp bx b_y <;> cases okp cx cy <;> cases okp dx dy <;> rfl
theorem ok4_flip2 (ax ay bx b_y cx cy dx dy : Int) : ok4 bx b_y ax ay cx cy dx dy = ok4 ax ay bx b_y cx cy dx dy := by
  unfold ok4; cases okp ax ay <;> cases okp bx b_y <;> rfl
theorem ends_no {ax ay bx b_y cx cy dx dy : Int} (h : (eqB ax ay bx b_y || eqB cx cy dx dy) = false) : ¬ (ax = bx ∧ ay = b_y) ∧ ¬ (cx = dx ∧ cy = dy) := by
  rw [Bool.or_eq_false_iff] at h
  constructor
  · intro k; have := (eqB_iff _ _ _ _).2 k; rw [h.1] at this; cases this
  · intro k; have := (eqB_iff _ _ _ _).2 k; rw [h.2] at this; cases this
theorem clsV_swap (ax ay bx b_y cx cy dx dy : Int) : clsV cx cy dx dy ax ay bx b_y = clsV ax ay bx b_y cx cy dx dy ∧ errV cx cy dx dy ax ay bx b_y = errV ax ay bx b_y cx cy dx dy := by
  unfold clsV errV
  rw [ok4_swap2, Bool.or_comm (eqB cx cy dx dy)]
  refine ⟨?_, rfl⟩
  cases h : (eqB ax ay bx b_y || eqB cx cy dx dy)
  · obtain ⟨h1, h2⟩ := ends_no h
    rw [cls_swap h1 h2]
  · rfl
theorem clsV_flip (ax ay bx b_y cx cy dx dy : Int) : clsV bx b_y ax ay cx cy dx dy = clsV ax ay bx b_y cx cy dx dy ∧ errV bx b_y ax ay cx cy dx dy = errV ax ay bx b_y cx cy dx dy := by
  unfold clsV errV
  rw [ok4_flip2, eqB_comm bx b_y ax ay, cls_flip]
  exact ⟨rfl, rfl⟩
end Go.Proofs.Ytkibjbbhiclkmaa
