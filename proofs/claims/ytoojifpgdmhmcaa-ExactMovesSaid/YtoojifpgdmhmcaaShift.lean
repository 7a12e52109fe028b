/- Plain facts for ExactMoves: what is moved, all together. -/
import Derived.Test.YtoojifpgdmhmcaaSym
namespace Go.Proofs.Ytoojifpgdmhmcaa
open Go.RowKit

/-- Small enough to be moved. -/
def sml (v : Int) : Prop := -4194304 ≤ v ∧ v ≤ 4194304
theorem bnd_sml {v : Int} (h : sml v) : bnd v = true := by unfold sml at h; simp [bnd]; omega
theorem bnd_sml2 {v q : Int} (h : sml v) (hq : sml q) : bnd (v + q) = true := by unfold sml at h hq; simp [bnd]; omega
theorem okp_sml {x y : Int} (h : sml x ∧ sml y) : okp x y = true := by unfold okp; rw [bnd_sml h.1, bnd_sml h.2]; rfl
theorem okp_sml2 {x y u v : Int} (h : sml x ∧ sml y) (hq : sml u ∧ sml v) : okp (x + u) (y + v) = true := by unfold okp; rw [bnd_sml2 h.1 hq.1, bnd_sml2 h.2 hq.2]; rfl

theorem crI_move (ax ay bx b_y cx cy u v : Int) : crI (ax + u) (ay + v) (bx + u) (b_y + v) (cx + u) (cy + v) = crI ax ay bx b_y cx cy := by
  unfold crI; grind
theorem betP_move (a b x u : Int) : betP (a + u) (b + u) (x + u) ↔ betP a b x := by unfold betP; omega
theorem onP_move (ax ay bx b_y cx cy u v : Int) : onP (ax + u) (ay + v) (bx + u) (b_y + v) (cx + u) (cy + v) ↔ onP ax ay bx b_y cx cy := by
  unfold onP; rw [crI_move, betP_move, betP_move]
theorem onI_move (ax ay bx b_y cx cy u v : Int) : onI (ax + u) (ay + v) (bx + u) (b_y + v) (cx + u) (cy + v) = onI ax ay bx b_y cx cy := by
  rw [Bool.eq_iff_iff, onI_iff, onI_iff, onP_move]
theorem inB_move (ax ay bx b_y cx cy px py u v : Int) : inB (ax + u) (ay + v) (bx + u) (b_y + v) (cx + u) (cy + v) (px + u) (py + v) = inB ax ay bx b_y cx cy px py := by
  unfold inB; rw [crI_move, crI_move, crI_move, crI_move, onI_move, onI_move]
theorem lessB_move (ax ay bx b_y u v : Int) : lessB (ax + u) (ay + v) (bx + u) (b_y + v) = lessB ax ay bx b_y := by
  unfold lessB
  by_cases h : ax = bx
  · rw [if_pos h, if_pos (by omega)]; simp
  · rw [if_neg h, if_neg (by omega)]; simp
section
variable {ax ay bx b_y cx cy px py u v : Int} (ha : sml ax ∧ sml ay) (hb : sml bx ∧ sml b_y) (hc : sml cx ∧ sml cy) (hp : sml px ∧ sml py) (hq : sml u ∧ sml v)
include ha hb hc hq
theorem crV_move : crV (ax + u) (ay + v) (bx + u) (b_y + v) (cx + u) (cy + v) = crV ax ay bx b_y cx cy := by
  rw [crV_ok (by unfold ok3; rw [okp_sml2 ha hq, okp_sml2 hb hq, okp_sml2 hc hq]; rfl), crV_ok (by unfold ok3; rw [okp_sml ha, okp_sml hb, okp_sml hc]; rfl), crI_move]
theorem onV_move : onV (ax + u) (ay + v) (bx + u) (b_y + v) (cx + u) (cy + v) = onV ax ay bx b_y cx cy := by
  rw [onV_ok (by unfold ok3; rw [okp_sml2 ha hq, okp_sml2 hb hq, okp_sml2 hc hq]; rfl), onV_ok (by unfold ok3; rw [okp_sml ha, okp_sml hb, okp_sml hc]; rfl), onI_move]
include hp
theorem inV_move : inV (ax + u) (ay + v) (bx + u) (b_y + v) (cx + u) (cy + v) (px + u) (py + v) = inV ax ay bx b_y cx cy px py := by
  unfold inV ok4
  rw [okp_sml2 ha hq, okp_sml2 hb hq, okp_sml2 hc hq, okp_sml2 hp hq, okp_sml ha, okp_sml hb, okp_sml hc, okp_sml hp, inB_move]
end
end Go.Proofs.Ytoojifpgdmhmcaa
