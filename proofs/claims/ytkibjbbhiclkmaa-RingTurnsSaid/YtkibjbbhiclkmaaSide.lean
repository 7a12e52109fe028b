/- Walks of the closure in InTriangle, and of the document's On. -/
import Derived.Test.YtkibjbbhiclkmaaLies
import Derived.Test.YtkibjbbhiclkmaaKeep
import Derived.Deep.RegionHeld3
import Derived.Deep.QuietTactic
import Derived.BigQuiet
namespace Go.Proofs.Ytkibjbbhiclkmaa
open Go.RowKit

theorem betB_iff (a b v : Int) : betB a b v = true ↔ betP a b v := by
  unfold betB betP; simp; omega
theorem onI_iff (ax ay bx b_y px py : Int) : onI ax ay bx b_y px py = true ↔ onP ax ay bx b_y px py := by
  unfold onI onP
  split
  · rename_i h
    obtain ⟨rfl, rfl⟩ := h
    have : crI ax ay ax ay px py = 0 := by unfold crI; grind
    simp [this, betP]; omega
  · simp [betB_iff, and_assoc]
/-- By the product, as the document reckons. -/
theorem onI_dot {ax ay bx b_y px py : Int} (hne : ¬ (ax = bx ∧ ay = b_y)) : onI ax ay bx b_y px py = (decide (crI ax ay bx b_y px py = 0) && decide (0 ≤ dotI ax ay bx b_y px py) && decide (dotI ax ay bx b_y px py ≤ lngI ax ay bx b_y)) := by
  rw [Bool.eq_iff_iff, onI_iff]
  unfold onP
  simp only [Bool.and_eq_true, decide_eq_true_eq, and_assoc]
  constructor
  · rintro ⟨h, k⟩
    exact ⟨h, (on_dot hne h).2 k⟩
  · rintro ⟨h, k⟩
    exact ⟨h, (on_dot hne h).1 k⟩

set_option maxHeartbeats 400000 in
theorem ron_point (ax ay px py : Int) (w : World) :
    Calls Try.prog 62 #[.agg #[.int .i64 ax, .int .i64 ay], .agg #[.int .i64 ax, .int .i64 ay], .agg #[.int .i64 px, .int .i64 py]] w
      fun e w' => e = .returned (.bool (decide (px = ax ∧ py = ay))) ∧ Below w.heap.size w w' := by
  go_enter Try.func62, Try.ntmps62
  go_wp2
  all_goals
    go_ret
    exact ⟨ret_bool (by simp [*]), b3 _ _ _ _⟩

theorem dot_lng_in {ax ay bx b_y px py : Int} (h : ok3 ax ay bx b_y px py = true) :
    (-1125899906842624 ≤ (px - ax) * (bx - ax) ∧ (px - ax) * (bx - ax) ≤ 1125899906842624) ∧ (-1125899906842624 ≤ (py - ay) * (b_y - ay) ∧ (py - ay) * (b_y - ay) ≤ 1125899906842624) ∧
    (-1125899906842624 ≤ (bx - ax) * (bx - ax) ∧ (bx - ax) * (bx - ax) ≤ 1125899906842624) ∧ (-1125899906842624 ≤ (b_y - ay) * (b_y - ay) ∧ (b_y - ay) * (b_y - ay) ≤ 1125899906842624) := by
  obtain ⟨q1, q2, q3, q4⟩ := crI_parts _ _ _ _ _ _ h
  exact ⟨mul_in _ _ 33554432 33554432 q4 q1, mul_in _ _ 33554432 33554432 q2 q3, mul_in _ _ 33554432 33554432 q1 q1, mul_in _ _ 33554432 33554432 q3 q3⟩

set_option maxHeartbeats 800000 in
theorem ron_a (ax ay bx b_y px py : Int) (w : World) (h : ok3 ax ay bx b_y px py = true) (hne : (ax == bx) = false) (d0 d1 : Bool) (hz : (crI ax ay bx b_y px py == 0) = d0) (hd : decide (0 ≤ dotI ax ay bx b_y px py) = d1) :
    Calls Try.prog 62 #[.agg #[.int .i64 ax, .int .i64 ay], .agg #[.int .i64 bx, .int .i64 b_y], .agg #[.int .i64 px, .int .i64 py]] w
      fun e w' => e = .returned (.bool (d0 && d1 && decide (dotI ax ay bx b_y px py ≤ lngI ax ay bx b_y))) ∧ Below w.heap.size w w' := by
  have H := Lib.hid h
  obtain ⟨q1, q2, q3, q4⟩ := crI_parts _ _ _ _ _ _ h
  obtain ⟨m1, m2, m3, m4⟩ := dot_lng_in h
  simp only [ok3, Bool.and_eq_true] at h
  have r1 := okp_yes h.1.1
  have r2 := okp_yes h.1.2
  have r3 := okp_yes h.2
  clear h
  unfold dotI at *
  unfold lngI at *
  go_enter Try.func62, Try.ntmps62
  go_wp2_with fail
  refine (rcross_yes _ _ _ _ _ _ _ H.out).mono ?_
  rintro e w1 ⟨rfl, hb1⟩
  go_wp2
  all_goals
    go_ret
    exact ⟨ret_bool (by first | (simp_all; done) | (cases d0 <;> cases d1 <;> simp_all <;> omega)), (b3 _ _ _ _).trans (hb1.mono (by simp <;> omega))⟩

set_option maxHeartbeats 800000 in
theorem ron_b (ax ay bx b_y px py : Int) (w : World) (h : ok3 ax ay bx b_y px py = true) (he : Hid (ax = bx)) (hne : (ay == b_y) = false) (d0 d1 : Bool) (hz : (crI ax ay bx b_y px py == 0) = d0) (hd : decide (0 ≤ dotI ax ay bx b_y px py) = d1) :
    Calls Try.prog 62 #[.agg #[.int .i64 ax, .int .i64 ay], .agg #[.int .i64 bx, .int .i64 b_y], .agg #[.int .i64 px, .int .i64 py]] w
      fun e w' => e = .returned (.bool (d0 && d1 && decide (dotI ax ay bx b_y px py ≤ lngI ax ay bx b_y))) ∧ Below w.heap.size w w' := by
  obtain rfl : ax = bx := he.out
  clear he
  have H := Lib.hid h
  obtain ⟨q1, q2, q3, q4⟩ := crI_parts _ _ _ _ _ _ h
  obtain ⟨m1, m2, m3, m4⟩ := dot_lng_in h
  simp only [ok3, Bool.and_eq_true] at h
  have r1 := okp_yes h.1.1
  have r2 := okp_yes h.1.2
  have r3 := okp_yes h.2
  clear h
  unfold dotI at *
  unfold lngI at *
  go_enter Try.func62, Try.ntmps62
  go_wp2_with fail
  refine (rcross_yes _ _ _ _ _ _ _ H.out).mono ?_
  rintro e w1 ⟨rfl, hb1⟩
  go_wp2
  all_goals
    go_ret
    exact ⟨ret_bool (by first | (simp_all; done) | (cases d0 <;> cases d1 <;> simp_all <;> omega)), (b3 _ _ _ _).trans (hb1.mono (by simp <;> omega))⟩


theorem ron_any (ax ay bx b_y px py : Int) (w : World) (h : ok3 ax ay bx b_y px py = true) :
    Calls Try.prog 62 #[.agg #[.int .i64 ax, .int .i64 ay], .agg #[.int .i64 bx, .int .i64 b_y], .agg #[.int .i64 px, .int .i64 py]] w
      fun e w' => e = .returned (.bool (onI ax ay bx b_y px py)) ∧ Below w.heap.size w w' := by
  by_cases he : ax = bx ∧ ay = b_y
  · unfold onI
    rw [if_pos he]
    obtain ⟨rfl, rfl⟩ := he
    exact ron_point ax ay px py w
  · rw [onI_dot he]
    have e0 : decide (crI ax ay bx b_y px py = 0) = (crI ax ay bx b_y px py == 0) := by rw [Bool.eq_iff_iff]; simp
    rw [e0]
    by_cases hx : ax = bx
    · exact ron_b ax ay bx b_y px py w h (Lib.hid hx) (beq_eq_false_iff_ne.2 (fun hy => he ⟨hx, hy⟩)) _ _ rfl rfl
    · exact ron_a ax ay bx b_y px py w h (beq_eq_false_iff_ne.2 hx) _ _ rfl rfl
end Go.Proofs.Ytkibjbbhiclkmaa
