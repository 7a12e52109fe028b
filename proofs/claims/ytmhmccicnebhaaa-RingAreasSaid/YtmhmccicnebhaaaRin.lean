/- Walk of the document's In, and that it answers as InTriangle. -/
import Derived.Test.YtmhmccicnebhaaaTri
namespace Go.Proofs.Ytmhmccicnebhaaa
open Go.RowKit

def rinB (ax ay bx b_y cx cy px py : Int) : Bool :=
  onI ax ay bx b_y px py || onI bx b_y cx cy px py || onI cx cy ax ay px py || (sgn (crI ax ay bx b_y px py) == sgn (crI bx b_y cx cy px py) && sgn (crI bx b_y cx cy px py) == sgn (crI cx cy ax ay px py) && sgn (crI ax ay bx b_y px py) != 0)
theorem allS_iff (x y z : Int) : (sgn x == sgn y && sgn y == sgn z && sgn x != 0) = true ↔ allS x y z := by
  unfold allS sgn
  simp only [Bool.and_eq_true, beq_iff_eq, bne_iff_ne]
  constructor
  · rintro ⟨⟨h1, h2⟩, h3⟩
    split at h1 <;> split at h1 <;> split at h2 <;> (try split at h1) <;> (try split at h2) <;> (try split at h2) <;> (try split at h3) <;> (try split at h3) <;> omega
  · rintro (⟨a, b, c⟩ | ⟨a, b, c⟩)
    · simp [a, b, c]
    · have : ¬ 0 < x := by omega
      have : ¬ 0 < y := by omega
      have : ¬ 0 < z := by omega
      simp [*]
theorem side_iff {s D : Int} (hD : D ≠ 0) : (sgn s != - sgn D) = true ↔ 0 ≤ s * D := by
  rw [bne_iff_ne]
  rcases Int.lt_trichotomy s 0 with h | h | h <;> rcases Int.lt_or_gt_of_ne hD with k | k
  · have := Int.mul_pos_of_neg_of_neg h k
    have e1 : sgn s = -1 := by unfold sgn; rw [if_neg (by omega), if_pos h]
    have e2 : sgn D = -1 := by unfold sgn; rw [if_neg (by omega), if_pos k]
    rw [e1, e2]; omega
  · have := Int.mul_neg_of_neg_of_pos h k
    have e1 : sgn s = -1 := by unfold sgn; rw [if_neg (by omega), if_pos h]
    have e2 : sgn D = 1 := by unfold sgn; rw [if_pos (by omega)]
    rw [e1, e2]; omega
  · subst h
    have e1 : sgn 0 = 0 := rfl
    have e2 : sgn D = -1 := by unfold sgn; rw [if_neg (by omega), if_pos k]
    rw [e1, e2]; omega
  · subst h
    have e1 : sgn 0 = 0 := rfl
    have e2 : sgn D = 1 := by unfold sgn; rw [if_pos (by omega)]
    rw [e1, e2]; omega
  · have := Int.mul_neg_of_pos_of_neg h k
    have e1 : sgn s = 1 := by unfold sgn; rw [if_pos (by omega)]
    have e2 : sgn D = -1 := by unfold sgn; rw [if_neg (by omega), if_pos k]
    rw [e1, e2]; omega
  · have := Int.mul_pos h k
    have e1 : sgn s = 1 := by unfold sgn; rw [if_pos (by omega)]
    have e2 : sgn D = 1 := by unfold sgn; rw [if_pos (by omega)]
    rw [e1, e2]; omega
theorem inB_iff (ax ay bx b_y cx cy px py : Int) : inB ax ay bx b_y cx cy px py = true ↔ inP ax ay bx b_y cx cy px py := by
  unfold inB inP
  split
  · rw [Bool.or_eq_true, onI_iff, onI_iff]
  · rename_i hD
    rw [Bool.and_eq_true, Bool.and_eq_true, side_iff hD, side_iff hD, side_iff hD, and_assoc]
theorem rinB_iff (ax ay bx b_y cx cy px py : Int) : rinB ax ay bx b_y cx cy px py = true ↔ rinP ax ay bx b_y cx cy px py := by
  unfold rinB rinP
  rw [Bool.or_eq_true, Bool.or_eq_true, Bool.or_eq_true, onI_iff, onI_iff, onI_iff, allS_iff, or_assoc, or_assoc]
theorem inB_rinB (ax ay bx b_y cx cy px py : Int) : rinB ax ay bx b_y cx cy px py = inB ax ay bx b_y cx cy px py := by
  rw [Bool.eq_iff_iff, rinB_iff, inB_iff, in_rin]
end Go.Proofs.Ytmhmccicnebhaaa
