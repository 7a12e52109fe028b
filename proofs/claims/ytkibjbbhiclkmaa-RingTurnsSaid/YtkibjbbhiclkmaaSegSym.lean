/- Plain facts on how two segments lie: told the other way round, moved. Nothing of the program. -/
import Derived.Test.YtkibjbbhiclkmaaSegLine
namespace Go.Proofs.Ytkibjbbhiclkmaa

theorem eqB_comm (ax ay bx b_y : Int) : eqB ax ay bx b_y = eqB bx b_y ax ay := by
  rw [Bool.eq_iff_iff, eqB_iff, eqB_iff]; omega
theorem onB_flip (ax ay bx b_y px py : Int) : onB bx b_y ax ay px py = onB ax ay bx b_y px py := by
  rw [Bool.eq_iff_iff, onB_iff, onB_iff]; exact ⟨on_flip, on_flip⟩
theorem sg_neg (m n : Int) : (sg (-m) ≠ sg (-n)) ↔ (sg m ≠ sg n) := by
  unfold sg; split <;> split <;> (try split) <;> (try split) <;> (try split) <;> (try split) <;> (try split) <;> (try split) <;> omega
theorem onB_a (ax ay bx b_y px py : Int) (h : eqB px py ax ay = true) : onB ax ay bx b_y px py = true := by
  obtain ⟨rfl, rfl⟩ := (eqB_iff _ _ _ _).1 h
  exact (onB_iff _ _ _ _ _ _).2 (on_a _ _ _ _)
theorem onB_b (ax ay bx b_y px py : Int) (h : eqB px py bx b_y = true) : onB ax ay bx b_y px py = true := by
  obtain ⟨rfl, rfl⟩ := (eqB_iff _ _ _ _).1 h
  exact (onB_iff _ _ _ _ _ _).2 (on_b _ _ _ _)
/-- Ends that are ends of both. -/
theorem both_is (ax ay bx b_y px py : Int) : (onB ax ay bx b_y px py && (eqB px py ax ay || eqB px py bx b_y)) = (eqB px py ax ay || eqB px py bx b_y) := by
  cases h : (eqB px py ax ay || eqB px py bx b_y)
  · simp
  · rw [Bool.or_eq_true] at h
    rcases h with h | h
    · rw [onB_a _ _ _ _ _ _ h]; rfl
    · rw [onB_b _ _ _ _ _ _ h]; rfl

theorem cls_flip (ax ay bx b_y cx cy dx dy : Int) : clsI bx b_y ax ay cx cy dx dy = clsI ax ay bx b_y cx cy dx dy := by
  unfold clsI
  rw [crI_flip ax ay bx b_y, crI_flip ax ay bx b_y, onB_flip ax ay bx b_y, onB_flip ax ay bx b_y]
  have e : (eqB bx b_y cx cy && eqB ax ay dx dy || eqB bx b_y dx dy && eqB ax ay cx cy) = (eqB ax ay cx cy && eqB bx b_y dx dy || eqB ax ay dx dy && eqB bx b_y cx cy) := by
    rw [Bool.or_comm, Bool.and_comm, Bool.and_comm (eqB bx b_y cx cy)]
  rw [e]
  simp only [sg_neg]
  have e1 : ∀ x y : Int, x + y = y + x := Int.add_comm
  rw [e1 (bi (onB cx cy dx dy bx b_y && _)), e1 (bi (onB cx cy dx dy bx b_y))]
  have e2 : (sg (crI cx cy dx dy bx b_y) ≠ sg (crI cx cy dx dy ax ay)) ↔ (sg (crI cx cy dx dy ax ay) ≠ sg (crI cx cy dx dy bx b_y)) := ⟨Ne.symm, Ne.symm⟩
  simp only [e2]
theorem cls_swap {ax ay bx b_y cx cy dx dy : Int} (hab : ¬ (ax = bx ∧ ay = b_y)) (hcd : ¬ (cx = dx ∧ cy = dy)) : clsI cx cy dx dy ax ay bx b_y = clsI ax ay bx b_y cx cy dx dy := by
  unfold clsI
  simp only [both_is]
  rw [eqB_comm cx cy ax ay, eqB_comm cx cy bx b_y, eqB_comm dx dy ax ay, eqB_comm dx dy bx b_y]
  have e : (eqB ax ay cx cy && eqB bx b_y dx dy || eqB bx b_y cx cy && eqB ax ay dx dy) = (eqB ax ay cx cy && eqB bx b_y dx dy || eqB ax ay dx dy && eqB bx b_y cx cy) := by
    rw [Bool.and_comm (eqB bx b_y cx cy)]
  rw [e]
  have x1 : ¬ (eqB ax ay cx cy = true ∧ eqB ax ay dx dy = true) := by rw [eqB_iff, eqB_iff]; omega
  have x2 : ¬ (eqB bx b_y cx cy = true ∧ eqB bx b_y dx dy = true) := by rw [eqB_iff, eqB_iff]; omega
  have x3 : ¬ (eqB ax ay cx cy = true ∧ eqB bx b_y cx cy = true) := by rw [eqB_iff, eqB_iff]; omega
  have x4 : ¬ (eqB ax ay dx dy = true ∧ eqB bx b_y dx dy = true) := by rw [eqB_iff, eqB_iff]; omega
  have b : bi (eqB ax ay cx cy || eqB bx b_y cx cy) + bi (eqB ax ay dx dy || eqB bx b_y dx dy) = bi (eqB ax ay cx cy || eqB ax ay dx dy) + bi (eqB bx b_y cx cy || eqB bx b_y dx dy) := by
    generalize eqB ax ay cx cy = p at *
    generalize eqB bx b_y cx cy = q at *
    generalize eqB ax ay dx dy = r at *
    generalize eqB bx b_y dx dy = s at *
    clear e hab hcd
    revert p q r s
    decide
  have e1 : bi (onB ax ay bx b_y cx cy) + bi (onB ax ay bx b_y dx dy) + (bi (onB cx cy dx dy ax ay) + bi (onB cx cy dx dy bx b_y)) = bi (onB cx cy dx dy ax ay) + bi (onB cx cy dx dy bx b_y) + (bi (onB ax ay bx b_y cx cy) + bi (onB ax ay bx b_y dx dy)) := Int.add_comm _ _
  rw [b, e1]
  have e2 : ∀ p q : Prop, (p ∧ q) = (q ∧ p) := fun p q => propext and_comm
  simp only [e2 (sg (crI cx cy dx dy ax ay) ≠ sg (crI cx cy dx dy bx b_y))]
theorem onB_move (ax ay bx b_y px py u v : Int) : onB (ax + u) (ay + v) (bx + u) (b_y + v) (px + u) (py + v) = onB ax ay bx b_y px py := by
  rw [Bool.eq_iff_iff, onB_iff, onB_iff]
  unfold onP betP crI
  constructor
  · rintro ⟨h, h1, h2⟩; exact ⟨by grind, by omega, by omega⟩
  · rintro ⟨h, h1, h2⟩; exact ⟨by grind, by omega, by omega⟩
theorem eqB_move (ax ay bx b_y u v : Int) : eqB (ax + u) (ay + v) (bx + u) (b_y + v) = eqB ax ay bx b_y := by
  rw [Bool.eq_iff_iff, eqB_iff, eqB_iff]; omega
theorem cr_move (ax ay bx b_y px py u v : Int) : crI (ax + u) (ay + v) (bx + u) (b_y + v) (px + u) (py + v) = crI ax ay bx b_y px py := by unfold crI; grind
theorem cls_move (ax ay bx b_y cx cy dx dy u v : Int) : clsI (ax + u) (ay + v) (bx + u) (b_y + v) (cx + u) (cy + v) (dx + u) (dy + v) = clsI ax ay bx b_y cx cy dx dy := by
  unfold clsI; simp only [onB_move, eqB_move, cr_move]
end Go.Proofs.Ytkibjbbhiclkmaa
