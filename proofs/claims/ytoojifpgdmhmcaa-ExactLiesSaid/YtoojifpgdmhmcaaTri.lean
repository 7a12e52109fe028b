/- Walks of InTriangle, and of the document's In. -/
import Derived.Test.YtoojifpgdmhmcaaSide
namespace Go.Proofs.Ytoojifpgdmhmcaa
open Go.RowKit

theorem ok4_parts {ax ay bx b_y cx cy px py : Int} (h : ok4 ax ay bx b_y cx cy px py = true) :
    ok3 ax ay bx b_y cx cy = true ∧ ok3 ax ay bx b_y px py = true ∧ ok3 bx b_y cx cy px py = true ∧ ok3 cx cy ax ay px py = true := by
  simp only [ok4, ok3, Bool.and_eq_true] at *
  simp [h]
theorem onV_ok {ax ay bx b_y px py : Int} (h : ok3 ax ay bx b_y px py = true) : onV ax ay bx b_y px py = onI ax ay bx b_y px py := by
  unfold onV; rw [h, Bool.true_and]

def inB (ax ay bx b_y cx cy px py : Int) : Bool :=
  if crI ax ay bx b_y cx cy = 0 then onI ax ay bx b_y px py || onI bx b_y cx cy px py
  else (sgn (crI ax ay bx b_y px py) != - sgn (crI ax ay bx b_y cx cy)) && (sgn (crI bx b_y cx cy px py) != - sgn (crI ax ay bx b_y cx cy)) && (sgn (crI cx cy ax ay px py) != - sgn (crI ax ay bx b_y cx cy))
def inV (ax ay bx b_y cx cy px py : Int) : Bool := ok4 ax ay bx b_y cx cy px py && inB ax ay bx b_y cx cy px py

set_option maxHeartbeats 400000 in
theorem in_wrong (ax ay bx b_y cx cy px py : Int) (w : World) (H : Hid (ok4 ax ay bx b_y cx cy px py = false)) :
    Calls Try.prog 23 #[.agg #[.int .i64 ax, .int .i64 ay], .agg #[.int .i64 bx, .int .i64 b_y], .agg #[.int .i64 cx, .int .i64 cy], .agg #[.int .i64 px, .int .i64 py]] w
      fun e w' => e = .returned (.bool false) ∧ Below w.heap.size w w' := by
  go_enter Try.func23, Try.ntmps23
  go_wp2_with fail
  refine (right4 _ _ ax ay bx b_y cx cy px py (by simp) (by go_simp) (by go_simp) (by go_simp) (by go_simp) (by go_simp) (by go_simp) (by go_simp) (by go_simp)).mono ?_
  rintro e w1 ⟨rfl, hb1⟩
  rw [H.out]
  go_wp2
  go_ret
  exact ⟨rfl, (b5 _ _ _ _ _ _).trans (hb1.mono (by simp <;> omega))⟩

set_option maxHeartbeats 800000 in
theorem in_line (ax ay bx b_y cx cy px py : Int) (w : World) (H : Hid (ok4 ax ay bx b_y cx cy px py = true)) (HT : Hid (sgn (crV ax ay bx b_y cx cy) = 0)) (o1 : Bool) (HO1 : Hid (onV ax ay bx b_y px py = o1)) :
    Calls Try.prog 23 #[.agg #[.int .i64 ax, .int .i64 ay], .agg #[.int .i64 bx, .int .i64 b_y], .agg #[.int .i64 cx, .int .i64 cy], .agg #[.int .i64 px, .int .i64 py]] w
      fun e w' => e = .returned (.bool (o1 || onV bx b_y cx cy px py)) ∧ Below w.heap.size w w' := by
  cases o1
  all_goals
    go_enter Try.func23, Try.ntmps23
    go_wp2_with fail
    refine (right4 _ _ ax ay bx b_y cx cy px py (by simp) (by go_simp) (by go_simp) (by go_simp) (by go_simp) (by go_simp) (by go_simp) (by go_simp) (by go_simp)).mono ?_
    rintro e w1 ⟨rfl, hb1⟩
    rw [H.out]
    have hS1 := keep8 (w := w) (a0 := ⟨w.heap.size, 0, none⟩) (a1 := ⟨w.heap.size, 1, none⟩) (a2 := ⟨w.heap.size + 1, 0, none⟩) (a3 := ⟨w.heap.size + 1, 1, none⟩) (a4 := ⟨w.heap.size + 1 + 1, 0, none⟩) (a5 := ⟨w.heap.size + 1 + 1, 1, none⟩) (a6 := ⟨w.heap.size + 1 + 1 + 1, 0, none⟩) (a7 := ⟨w.heap.size + 1 + 1 + 1, 1, none⟩)
      (v0 := .int .i64 ax) (v1 := .int .i64 ay) (v2 := .int .i64 bx) (v3 := .int .i64 b_y) (v4 := .int .i64 cx) (v5 := .int .i64 cy) (v6 := .int .i64 px) (v7 := .int .i64 py) hb1 ⟨by go_simp, by go_simp, by go_simp, by go_simp, by go_simp, by go_simp, by go_simp, by go_simp, b5 _ _ _ _ _ _⟩
    clear hb1
    go_wp2_with fail
    refine (turn_any _ _ _ _ _ _ _).mono ?_
    rintro e w2 ⟨rfl, hb2⟩
    rw [HT.out]
    have hS2 := keep8 hb2 hS1
    clear hb2 hS1
    have hS3 := keep8 (b1 w2 (.cells #[.int .i64 0] 3)) hS2
    go_wp2_with fail
    refine (on_any _ _ _ _ _ _ _).mono ?_
    rintro e w3 ⟨rfl, hb3⟩
    rw [HO1.out]
    have hS4 := keep8 hb3 hS3
    go_wp2_with (go_at_call 22; refine (on_any _ _ _ _ _ _ _).mono ?_; rintro e w4 ⟨rfl, hb4⟩; have hS5 := keep8 hb4 hS4)
    go_ret
    exact ⟨rfl, by first | exact hS5.2.2.2.2.2.2.2.2 | exact hS4.2.2.2.2.2.2.2.2⟩

theorem sgn_in (n : Int) : -1 ≤ sgn n ∧ sgn n ≤ 1 := by unfold sgn; split <;> (try split) <;> omega

set_option maxHeartbeats 800000 in
theorem in_tri (ax ay bx b_y cx cy px py : Int) (w : World) (H : Hid (ok4 ax ay bx b_y cx cy px py = true)) (way : Int) (HT : Hid (sgn (crV ax ay bx b_y cx cy) = way)) (hway : (way == 0) = false) (h1 : -1 ≤ way) (h2 : way ≤ 1)
    (t1 t2 t3 : Bool) (HT1 : Hid ((sgn (crV ax ay bx b_y px py) != -way) = t1)) (HT2 : Hid ((sgn (crV bx b_y cx cy px py) != -way) = t2)) (HT3 : Hid ((sgn (crV cx cy ax ay px py) != -way) = t3)) :
    Calls Try.prog 23 #[.agg #[.int .i64 ax, .int .i64 ay], .agg #[.int .i64 bx, .int .i64 b_y], .agg #[.int .i64 cx, .int .i64 cy], .agg #[.int .i64 px, .int .i64 py]] w
      fun e w' => e = .returned (.bool (t1 && t2 && t3)) ∧ Below w.heap.size w w' := by
  cases t1
  · go_enter Try.func23, Try.ntmps23
    go_wp2_with fail
    refine (right4 _ _ ax ay bx b_y cx cy px py (by simp) (by go_simp) (by go_simp) (by go_simp) (by go_simp) (by go_simp) (by go_simp) (by go_simp) (by go_simp)).mono ?_
    rintro e w1 ⟨rfl, hb1⟩
    rw [H.out]
    have hS1 := keep8 (w := w) (a0 := ⟨w.heap.size, 0, none⟩) (a1 := ⟨w.heap.size, 1, none⟩) (a2 := ⟨w.heap.size + 1, 0, none⟩) (a3 := ⟨w.heap.size + 1, 1, none⟩) (a4 := ⟨w.heap.size + 1 + 1, 0, none⟩) (a5 := ⟨w.heap.size + 1 + 1, 1, none⟩) (a6 := ⟨w.heap.size + 1 + 1 + 1, 0, none⟩) (a7 := ⟨w.heap.size + 1 + 1 + 1, 1, none⟩)
      (v0 := .int .i64 ax) (v1 := .int .i64 ay) (v2 := .int .i64 bx) (v3 := .int .i64 b_y) (v4 := .int .i64 cx) (v5 := .int .i64 cy) (v6 := .int .i64 px) (v7 := .int .i64 py) hb1 ⟨by go_simp, by go_simp, by go_simp, by go_simp, by go_simp, by go_simp, by go_simp, by go_simp, b5 _ _ _ _ _ _⟩
    clear hb1
    go_wp2_with fail
    refine (turn_any _ _ _ _ _ _ _).mono ?_
    rintro e w2 ⟨rfl, hb2⟩
    rw [HT.out]
    have hS2 := keep8 hb2 hS1
    clear hb2 hS1
    have hS3 := keep8 (b1 w2 (.cells #[.int .i64 way] 3)) hS2
    have kw3 : (w2.alloc (.cells #[.int .i64 way] 3)).cell? ⟨w2.heap.size, 0, none⟩ = some (.int .i64 way) := by go_simp
    go_wp2_with fail
    refine (side_any _ _ _ _ px py way (w.heap.size + 1 + 1 + 1) w2.heap.size _ hS3.2.2.2.2.2.2.1 hS3.2.2.2.2.2.2.2.1 kw3 ⟨h1, h2⟩).mono ?_
    rintro e w3 ⟨rfl, hb3⟩
    rw [HT1.out]
    have hS4 := keep8 hb3 hS3
    have kw4 := cell_later hb3 kw3
    go_wp2
    go_ret
    exact ⟨rfl, hS4.2.2.2.2.2.2.2.2⟩
  · cases t2
    · go_enter Try.func23, Try.ntmps23
      go_wp2_with fail
      refine (right4 _ _ ax ay bx b_y cx cy px py (by simp) (by go_simp) (by go_simp) (by go_simp) (by go_simp) (by go_simp) (by go_simp) (by go_simp) (by go_simp)).mono ?_
      rintro e w1 ⟨rfl, hb1⟩
      rw [H.out]
      have hS1 := keep8 (w := w) (a0 := ⟨w.heap.size, 0, none⟩) (a1 := ⟨w.heap.size, 1, none⟩) (a2 := ⟨w.heap.size + 1, 0, none⟩) (a3 := ⟨w.heap.size + 1, 1, none⟩) (a4 := ⟨w.heap.size + 1 + 1, 0, none⟩) (a5 := ⟨w.heap.size + 1 + 1, 1, none⟩) (a6 := ⟨w.heap.size + 1 + 1 + 1, 0, none⟩) (a7 := ⟨w.heap.size + 1 + 1 + 1, 1, none⟩)
        (v0 := .int .i64 ax) (v1 := .int .i64 ay) (v2 := .int .i64 bx) (v3 := .int .i64 b_y) (v4 := .int .i64 cx) (v5 := .int .i64 cy) (v6 := .int .i64 px) (v7 := .int .i64 py) hb1 ⟨by go_simp, by go_simp, by go_simp, by go_simp, by go_simp, by go_simp, by go_simp, by go_simp, b5 _ _ _ _ _ _⟩
      clear hb1
      go_wp2_with fail
      refine (turn_any _ _ _ _ _ _ _).mono ?_
      rintro e w2 ⟨rfl, hb2⟩
      rw [HT.out]
      have hS2 := keep8 hb2 hS1
      clear hb2 hS1
      have hS3 := keep8 (b1 w2 (.cells #[.int .i64 way] 3)) hS2
      have kw3 : (w2.alloc (.cells #[.int .i64 way] 3)).cell? ⟨w2.heap.size, 0, none⟩ = some (.int .i64 way) := by go_simp
      go_wp2_with fail
      refine (side_any _ _ _ _ px py way (w.heap.size + 1 + 1 + 1) w2.heap.size _ hS3.2.2.2.2.2.2.1 hS3.2.2.2.2.2.2.2.1 kw3 ⟨h1, h2⟩).mono ?_
      rintro e w3 ⟨rfl, hb3⟩
      rw [HT1.out]
      have hS4 := keep8 hb3 hS3
      have kw4 := cell_later hb3 kw3
      go_wp2_with fail
      refine (side_any _ _ _ _ px py way (w.heap.size + 1 + 1 + 1) w2.heap.size _ hS4.2.2.2.2.2.2.1 hS4.2.2.2.2.2.2.2.1 kw4 ⟨h1, h2⟩).mono ?_
      rintro e w4 ⟨rfl, hb4⟩
      rw [HT2.out]
      have hS5 := keep8 hb4 hS4
      have kw5 := cell_later hb4 kw4
      go_wp2
      go_ret
      exact ⟨rfl, hS5.2.2.2.2.2.2.2.2⟩
    · go_enter Try.func23, Try.ntmps23
      go_wp2_with fail
      refine (right4 _ _ ax ay bx b_y cx cy px py (by simp) (by go_simp) (by go_simp) (by go_simp) (by go_simp) (by go_simp) (by go_simp) (by go_simp) (by go_simp)).mono ?_
      rintro e w1 ⟨rfl, hb1⟩
      rw [H.out]
      have hS1 := keep8 (w := w) (a0 := ⟨w.heap.size, 0, none⟩) (a1 := ⟨w.heap.size, 1, none⟩) (a2 := ⟨w.heap.size + 1, 0, none⟩) (a3 := ⟨w.heap.size + 1, 1, none⟩) (a4 := ⟨w.heap.size + 1 + 1, 0, none⟩) (a5 := ⟨w.heap.size + 1 + 1, 1, none⟩) (a6 := ⟨w.heap.size + 1 + 1 + 1, 0, none⟩) (a7 := ⟨w.heap.size + 1 + 1 + 1, 1, none⟩)
        (v0 := .int .i64 ax) (v1 := .int .i64 ay) (v2 := .int .i64 bx) (v3 := .int .i64 b_y) (v4 := .int .i64 cx) (v5 := .int .i64 cy) (v6 := .int .i64 px) (v7 := .int .i64 py) hb1 ⟨by go_simp, by go_simp, by go_simp, by go_simp, by go_simp, by go_simp, by go_simp, by go_simp, b5 _ _ _ _ _ _⟩
      clear hb1
      go_wp2_with fail
      refine (turn_any _ _ _ _ _ _ _).mono ?_
      rintro e w2 ⟨rfl, hb2⟩
      rw [HT.out]
      have hS2 := keep8 hb2 hS1
      clear hb2 hS1
      have hS3 := keep8 (b1 w2 (.cells #[.int .i64 way] 3)) hS2
      have kw3 : (w2.alloc (.cells #[.int .i64 way] 3)).cell? ⟨w2.heap.size, 0, none⟩ = some (.int .i64 way) := by go_simp
      go_wp2_with fail
      refine (side_any _ _ _ _ px py way (w.heap.size + 1 + 1 + 1) w2.heap.size _ hS3.2.2.2.2.2.2.1 hS3.2.2.2.2.2.2.2.1 kw3 ⟨h1, h2⟩).mono ?_
      rintro e w3 ⟨rfl, hb3⟩
      rw [HT1.out]
      have hS4 := keep8 hb3 hS3
      have kw4 := cell_later hb3 kw3
      go_wp2_with fail
      refine (side_any _ _ _ _ px py way (w.heap.size + 1 + 1 + 1) w2.heap.size _ hS4.2.2.2.2.2.2.1 hS4.2.2.2.2.2.2.2.1 kw4 ⟨h1, h2⟩).mono ?_
      rintro e w4 ⟨rfl, hb4⟩
      rw [HT2.out]
      have hS5 := keep8 hb4 hS4
      have kw5 := cell_later hb4 kw4
      go_wp2_with fail
      refine (side_any _ _ _ _ px py way (w.heap.size + 1 + 1 + 1) w2.heap.size _ hS5.2.2.2.2.2.2.1 hS5.2.2.2.2.2.2.2.1 kw5 ⟨h1, h2⟩).mono ?_
      rintro e w5 ⟨rfl, hb5⟩
      rw [HT3.out]
      have hS6 := keep8 hb5 hS5
      go_wp2
      go_ret
      exact ⟨rfl, hS6.2.2.2.2.2.2.2.2⟩

theorem intri_any (ax ay bx b_y cx cy px py : Int) (w : World) :
    Calls Try.prog 23 #[.agg #[.int .i64 ax, .int .i64 ay], .agg #[.int .i64 bx, .int .i64 b_y], .agg #[.int .i64 cx, .int .i64 cy], .agg #[.int .i64 px, .int .i64 py]] w
      fun e w' => e = .returned (.bool (inV ax ay bx b_y cx cy px py)) ∧ Below w.heap.size w w' := by
  unfold inV
  cases h : ok4 ax ay bx b_y cx cy px py
  · exact in_wrong ax ay bx b_y cx cy px py w (Lib.hid h)
  · rw [Bool.true_and]
    obtain ⟨k1, k2, k3, k4⟩ := ok4_parts h
    have e1 := crV_ok k1
    have e2 := crV_ok k2
    have e3 := crV_ok k3
    have e4 := crV_ok k4
    unfold inB
    split
    · rename_i hz
      rw [← onV_ok k2, ← onV_ok k3]
      exact in_line ax ay bx b_y cx cy px py w (Lib.hid h) (Lib.hid ((sgn_zero _).2 (by rw [e1]; exact hz))) _ (Lib.hid rfl)
    · rename_i hz
      rw [← e1, ← e2, ← e3, ← e4]
      obtain ⟨s1, s2⟩ := sgn_in (crV ax ay bx b_y cx cy)
      exact in_tri ax ay bx b_y cx cy px py w (Lib.hid h) _ (Lib.hid rfl) (beq_eq_false_iff_ne.2 (fun k => hz (by rw [← e1]; exact (sgn_zero _).1 k))) s1 s2 _ _ _ (Lib.hid rfl) (Lib.hid rfl) (Lib.hid rfl)
end Go.Proofs.Ytoojifpgdmhmcaa
