/- Walk of the document's In, and that it answers as InTriangle. -/
import Derived.Test.YtoojifpgdmhmcaaTri
namespace Go.Proofs.Ytoojifpgdmhmcaa
open Go.RowKit

set_option maxHeartbeats 800000 in
theorem rin_on1 (ax ay bx b_y cx cy px py : Int) (w : World) (k2 : Hid (ok3 ax ay bx b_y px py = true)) (HO1 : Hid (onI ax ay bx b_y px py = true)) :
    Calls Try.prog 21 #[.agg #[.int .i64 ax, .int .i64 ay], .agg #[.int .i64 bx, .int .i64 b_y], .agg #[.int .i64 cx, .int .i64 cy], .agg #[.int .i64 px, .int .i64 py]] w
      fun e w' => e = .returned (.bool true) ∧ Below w.heap.size w w' := by
  go_enter Try.func21, Try.ntmps21
  go_wp2_with fail
  refine (ron_any _ _ _ _ _ _ _ k2.out).mono ?_
  rintro e w1 ⟨rfl, hb1⟩
  rw [HO1.out]
  have hS1 := keep8 (w := w) (a0 := ⟨w.heap.size, 0, none⟩) (a1 := ⟨w.heap.size, 1, none⟩) (a2 := ⟨w.heap.size + 1, 0, none⟩) (a3 := ⟨w.heap.size + 1, 1, none⟩) (a4 := ⟨w.heap.size + 1 + 1, 0, none⟩) (a5 := ⟨w.heap.size + 1 + 1, 1, none⟩) (a6 := ⟨w.heap.size + 1 + 1 + 1, 0, none⟩) (a7 := ⟨w.heap.size + 1 + 1 + 1, 1, none⟩)
    (v0 := .int .i64 ax) (v1 := .int .i64 ay) (v2 := .int .i64 bx) (v3 := .int .i64 b_y) (v4 := .int .i64 cx) (v5 := .int .i64 cy) (v6 := .int .i64 px) (v7 := .int .i64 py) hb1 ⟨by go_simp, by go_simp, by go_simp, by go_simp, by go_simp, by go_simp, by go_simp, by go_simp, b4 _ _ _ _ _⟩
  clear hb1
  go_wp2
  go_ret
  exact ⟨rfl, hS1.2.2.2.2.2.2.2.2⟩

set_option maxHeartbeats 800000 in
theorem rin_on2 (ax ay bx b_y cx cy px py : Int) (w : World) (k2 : Hid (ok3 ax ay bx b_y px py = true)) (k3 : Hid (ok3 bx b_y cx cy px py = true)) (HO1 : Hid (onI ax ay bx b_y px py = false)) (HO2 : Hid (onI bx b_y cx cy px py = true)) :
    Calls Try.prog 21 #[.agg #[.int .i64 ax, .int .i64 ay], .agg #[.int .i64 bx, .int .i64 b_y], .agg #[.int .i64 cx, .int .i64 cy], .agg #[.int .i64 px, .int .i64 py]] w
      fun e w' => e = .returned (.bool true) ∧ Below w.heap.size w w' := by
  go_enter Try.func21, Try.ntmps21
  go_wp2_with fail
  refine (ron_any _ _ _ _ _ _ _ k2.out).mono ?_
  rintro e w1 ⟨rfl, hb1⟩
  rw [HO1.out]
  have hS1 := keep8 (w := w) (a0 := ⟨w.heap.size, 0, none⟩) (a1 := ⟨w.heap.size, 1, none⟩) (a2 := ⟨w.heap.size + 1, 0, none⟩) (a3 := ⟨w.heap.size + 1, 1, none⟩) (a4 := ⟨w.heap.size + 1 + 1, 0, none⟩) (a5 := ⟨w.heap.size + 1 + 1, 1, none⟩) (a6 := ⟨w.heap.size + 1 + 1 + 1, 0, none⟩) (a7 := ⟨w.heap.size + 1 + 1 + 1, 1, none⟩)
    (v0 := .int .i64 ax) (v1 := .int .i64 ay) (v2 := .int .i64 bx) (v3 := .int .i64 b_y) (v4 := .int .i64 cx) (v5 := .int .i64 cy) (v6 := .int .i64 px) (v7 := .int .i64 py) hb1 ⟨by go_simp, by go_simp, by go_simp, by go_simp, by go_simp, by go_simp, by go_simp, by go_simp, b4 _ _ _ _ _⟩
  clear hb1
  go_wp2_with fail
  refine (ron_any _ _ _ _ _ _ _ k3.out).mono ?_
  rintro e w2 ⟨rfl, hb2⟩
  rw [HO2.out]
  have hS2 := keep8 hb2 hS1
  clear hb2 hS1
  go_wp2
  go_ret
  exact ⟨rfl, hS2.2.2.2.2.2.2.2.2⟩

set_option maxHeartbeats 800000 in
theorem rin_on3 (ax ay bx b_y cx cy px py : Int) (w : World) (k2 : Hid (ok3 ax ay bx b_y px py = true)) (k3 : Hid (ok3 bx b_y cx cy px py = true)) (k4 : Hid (ok3 cx cy ax ay px py = true)) (HO1 : Hid (onI ax ay bx b_y px py = false)) (HO2 : Hid (onI bx b_y cx cy px py = false)) (HO3 : Hid (onI cx cy ax ay px py = true)) :
    Calls Try.prog 21 #[.agg #[.int .i64 ax, .int .i64 ay], .agg #[.int .i64 bx, .int .i64 b_y], .agg #[.int .i64 cx, .int .i64 cy], .agg #[.int .i64 px, .int .i64 py]] w
      fun e w' => e = .returned (.bool true) ∧ Below w.heap.size w w' := by
  go_enter Try.func21, Try.ntmps21
  go_wp2_with fail
  refine (ron_any _ _ _ _ _ _ _ k2.out).mono ?_
  rintro e w1 ⟨rfl, hb1⟩
  rw [HO1.out]
  have hS1 := keep8 (w := w) (a0 := ⟨w.heap.size, 0, none⟩) (a1 := ⟨w.heap.size, 1, none⟩) (a2 := ⟨w.heap.size + 1, 0, none⟩) (a3 := ⟨w.heap.size + 1, 1, none⟩) (a4 := ⟨w.heap.size + 1 + 1, 0, none⟩) (a5 := ⟨w.heap.size + 1 + 1, 1, none⟩) (a6 := ⟨w.heap.size + 1 + 1 + 1, 0, none⟩) (a7 := ⟨w.heap.size + 1 + 1 + 1, 1, none⟩)
    (v0 := .int .i64 ax) (v1 := .int .i64 ay) (v2 := .int .i64 bx) (v3 := .int .i64 b_y) (v4 := .int .i64 cx) (v5 := .int .i64 cy) (v6 := .int .i64 px) (v7 := .int .i64 py) hb1 ⟨by go_simp, by go_simp, by go_simp, by go_simp, by go_simp, by go_simp, by go_simp, by go_simp, b4 _ _ _ _ _⟩
  clear hb1
  go_wp2_with fail
  refine (ron_any _ _ _ _ _ _ _ k3.out).mono ?_
  rintro e w2 ⟨rfl, hb2⟩
  rw [HO2.out]
  have hS2 := keep8 hb2 hS1
  clear hb2 hS1
  go_wp2_with fail
  refine (ron_any _ _ _ _ _ _ _ k4.out).mono ?_
  rintro e w3 ⟨rfl, hb3⟩
  rw [HO3.out]
  have hS3 := keep8 hb3 hS2
  clear hb3 hS2
  go_wp2
  go_ret
  exact ⟨rfl, hS3.2.2.2.2.2.2.2.2⟩

set_option maxHeartbeats 800000 in
theorem rin_off (ax ay bx b_y cx cy px py : Int) (w : World) (k2 : Hid (ok3 ax ay bx b_y px py = true)) (k3 : Hid (ok3 bx b_y cx cy px py = true)) (k4 : Hid (ok3 cx cy ax ay px py = true))
    (HO1 : Hid (onI ax ay bx b_y px py = false)) (HO2 : Hid (onI bx b_y cx cy px py = false)) (HO3 : Hid (onI cx cy ax ay px py = false)) (x y z : Int) (H1 : Hid (sgn (crI ax ay bx b_y px py) = x)) (H2 : Hid (sgn (crI bx b_y cx cy px py) = y)) (H3 : Hid (sgn (crI cx cy ax ay px py) = z)) :
    Calls Try.prog 21 #[.agg #[.int .i64 ax, .int .i64 ay], .agg #[.int .i64 bx, .int .i64 b_y], .agg #[.int .i64 cx, .int .i64 cy], .agg #[.int .i64 px, .int .i64 py]] w
      fun e w' => e = .returned (.bool (x == y && y == z && x != 0)) ∧ Below w.heap.size w w' := by
  go_enter Try.func21, Try.ntmps21
  go_wp2_with fail
  refine (ron_any _ _ _ _ _ _ _ k2.out).mono ?_
  rintro e w1 ⟨rfl, hb1⟩
  rw [HO1.out]
  have hS1 := keep8 (w := w) (a0 := ⟨w.heap.size, 0, none⟩) (a1 := ⟨w.heap.size, 1, none⟩) (a2 := ⟨w.heap.size + 1, 0, none⟩) (a3 := ⟨w.heap.size + 1, 1, none⟩) (a4 := ⟨w.heap.size + 1 + 1, 0, none⟩) (a5 := ⟨w.heap.size + 1 + 1, 1, none⟩) (a6 := ⟨w.heap.size + 1 + 1 + 1, 0, none⟩) (a7 := ⟨w.heap.size + 1 + 1 + 1, 1, none⟩)
    (v0 := .int .i64 ax) (v1 := .int .i64 ay) (v2 := .int .i64 bx) (v3 := .int .i64 b_y) (v4 := .int .i64 cx) (v5 := .int .i64 cy) (v6 := .int .i64 px) (v7 := .int .i64 py) hb1 ⟨by go_simp, by go_simp, by go_simp, by go_simp, by go_simp, by go_simp, by go_simp, by go_simp, b4 _ _ _ _ _⟩
  clear hb1
  go_wp2_with fail
  refine (ron_any _ _ _ _ _ _ _ k3.out).mono ?_
  rintro e w2 ⟨rfl, hb2⟩
  rw [HO2.out]
  have hS2 := keep8 hb2 hS1
  clear hb2 hS1
  go_wp2_with fail
  refine (ron_any _ _ _ _ _ _ _ k4.out).mono ?_
  rintro e w3 ⟨rfl, hb3⟩
  rw [HO3.out]
  have hS3 := keep8 hb3 hS2
  clear hb3 hS2
  go_wp2_with fail
  go_region_held3 (fun w' => w'.cell? ⟨w.heap.size, 0, none⟩ = some (.int .i64 ax) ∧ w'.cell? ⟨w.heap.size, 1, none⟩ = some (.int .i64 ay) ∧ w'.cell? ⟨w.heap.size + 1, 0, none⟩ = some (.int .i64 bx) ∧ w'.cell? ⟨w.heap.size + 1, 1, none⟩ = some (.int .i64 b_y) ∧ w'.cell? ⟨w.heap.size + 1 + 1, 0, none⟩ = some (.int .i64 cx) ∧ w'.cell? ⟨w.heap.size + 1 + 1, 1, none⟩ = some (.int .i64 cy) ∧ w'.cell? ⟨w.heap.size + 1 + 1 + 1, 0, none⟩ = some (.int .i64 px) ∧ w'.cell? ⟨w.heap.size + 1 + 1 + 1, 1, none⟩ = some (.int .i64 py) ∧ Below w.heap.size w w') (first | exact hS4 | exact ⟨hS3.1, hS3.2.1, hS3.2.2.1, hS3.2.2.2.1, hS3.2.2.2.2.1, hS3.2.2.2.2.2.1, hS3.2.2.2.2.2.2.1, hS3.2.2.2.2.2.2.2.1, hS3.2.2.2.2.2.2.2.2.drew⟩ | assumption) (first | (go_at_call 11; refine (rcross_yes _ _ _ _ _ _ _ (by first | exact k2.out | exact k3.out | exact k4.out)).mono ?_; rintro e w4 ⟨rfl, hb4⟩; have hS4 := keep8 hb4 (by assumption)) | (go_at_call 19; refine (sign_any _ _).mono ?_; rintro e w4 ⟨rfl, rfl⟩; (first | rw [H1.out] | rw [H2.out] | rw [H3.out])))
  all_goals
    go_wp2
    all_goals
      go_ret
      exact ⟨ret_bool (by simp_all), hS4.2.2.2.2.2.2.2.2⟩

def rinB (ax ay bx b_y cx cy px py : Int) : Bool :=
  onI ax ay bx b_y px py || onI bx b_y cx cy px py || onI cx cy ax ay px py || (sgn (crI ax ay bx b_y px py) == sgn (crI bx b_y cx cy px py) && sgn (crI bx b_y cx cy px py) == sgn (crI cx cy ax ay px py) && sgn (crI ax ay bx b_y px py) != 0)
theorem rin_b (ax ay bx b_y cx cy px py : Int) (w : World) (h : ok4 ax ay bx b_y cx cy px py = true) :
    Calls Try.prog 21 #[.agg #[.int .i64 ax, .int .i64 ay], .agg #[.int .i64 bx, .int .i64 b_y], .agg #[.int .i64 cx, .int .i64 cy], .agg #[.int .i64 px, .int .i64 py]] w
      fun e w' => e = .returned (.bool (rinB ax ay bx b_y cx cy px py)) ∧ Below w.heap.size w w' := by
  obtain ⟨_, k2, k3, k4⟩ := ok4_parts h
  unfold rinB
  cases h1 : onI ax ay bx b_y px py
  · cases h2 : onI bx b_y cx cy px py
    · cases h3 : onI cx cy ax ay px py
      · exact rin_off ax ay bx b_y cx cy px py w (Lib.hid k2) (Lib.hid k3) (Lib.hid k4) (Lib.hid h1) (Lib.hid h2) (Lib.hid h3) _ _ _ (Lib.hid rfl) (Lib.hid rfl) (Lib.hid rfl)
      · exact rin_on3 ax ay bx b_y cx cy px py w (Lib.hid k2) (Lib.hid k3) (Lib.hid k4) (Lib.hid h1) (Lib.hid h2) (Lib.hid h3)
    · exact rin_on2 ax ay bx b_y cx cy px py w (Lib.hid k2) (Lib.hid k3) (Lib.hid h1) (Lib.hid h2)
  · exact rin_on1 ax ay bx b_y cx cy px py w (Lib.hid k2) (Lib.hid h1)

theorem allS_iff (x y z : Int) : (sgn x == sgn y && sgn y == sgn z && sgn x != 0) = true ↔ allS x y z := by
  unfold allS sgn
  simp only [Bool.and_eq_true, beq_iff_eq, bne_iff_ne]
  constructor
  · rintro ⟨⟨h1, h2⟩, h3⟩
    split at h1 <;> split at h1 <;> split at h2 <;> (try split at h1) <;> (try split at h2) <;> (try split at h2) <;> (try split at h3) <;> (try split at h3) <;> omega
  · rintro (⟨a, b, c⟩ | ⟨a, b, c⟩)
    · simp [a, b, c]
    · have : ¬ 0 < x := by omega
      have : ¬ 0 < y := by omega
      have : ¬ 0 < z := by omega
      simp [*]
theorem side_iff {s D : Int} (hD : D ≠ 0) : (sgn s != - sgn D) = true ↔ 0 ≤ s * D := by
  rw [bne_iff_ne]
  rcases Int.lt_trichotomy s 0 with h | h | h <;> rcases Int.lt_or_gt_of_ne hD with k | k
  · have := Int.mul_pos_of_neg_of_neg h k
    have e1 : sgn s = -1 := by unfold sgn; rw [if_neg (by omega), if_pos h]
    have e2 : sgn D = -1 := by unfold sgn; rw [if_neg (by omega), if_pos k]
    rw [e1, e2]; omega
  · have := Int.mul_neg_of_neg_of_pos h k
    have e1 : sgn s = -1 := by unfold sgn; rw [if_neg (by omega), if_pos h]
    have e2 : sgn D = 1 := by unfold sgn; rw [if_pos (by omega)]
    rw [e1, e2]; omega
  · subst h
    have e1 : sgn 0 = 0 := rfl
    have e2 : sgn D = -1 := by unfold sgn; rw [if_neg (by omega), if_pos k]
    rw [e1, e2]; omega
  · subst h
    have e1 : sgn 0 = 0 := rfl
    have e2 : sgn D = 1 := by unfold sgn; rw [if_pos (by omega)]
    rw [e1, e2]; omega
  · have := Int.mul_neg_of_pos_of_neg h k
    have e1 : sgn s = 1 := by unfold sgn; rw [if_pos (by omega)]
    have e2 : sgn D = -1 := by unfold sgn; rw [if_neg (by omega), if_pos k]
    rw [e1, e2]; omega
  · have := Int.mul_pos h k
    have e1 : sgn s = 1 := by unfold sgn; rw [if_pos (by omega)]
    have e2 : sgn D = 1 := by unfold sgn; rw [if_pos (by omega)]
    rw [e1, e2]; omega
theorem inB_iff (ax ay bx b_y cx cy px py : Int) : inB ax ay bx b_y cx cy px py = true ↔ inP ax ay bx b_y cx cy px py := by
  unfold inB inP
  split
  · rw [Bool.or_eq_true, onI_iff, onI_iff]
  · rename_i hD
    rw [Bool.and_eq_true, Bool.and_eq_true, side_iff hD, side_iff hD, side_iff hD, and_assoc]
theorem rinB_iff (ax ay bx b_y cx cy px py : Int) : rinB ax ay bx b_y cx cy px py = true ↔ rinP ax ay bx b_y cx cy px py := by
  unfold rinB rinP
  rw [Bool.or_eq_true, Bool.or_eq_true, Bool.or_eq_true, onI_iff, onI_iff, onI_iff, allS_iff, or_assoc, or_assoc]
theorem inB_rinB (ax ay bx b_y cx cy px py : Int) : rinB ax ay bx b_y cx cy px py = inB ax ay bx b_y cx cy px py := by
  rw [Bool.eq_iff_iff, rinB_iff, inB_iff, in_rin]
theorem rin_any (ax ay bx b_y cx cy px py : Int) (w : World) (h : ok4 ax ay bx b_y cx cy px py = true) :
    Calls Try.prog 21 #[.agg #[.int .i64 ax, .int .i64 ay], .agg #[.int .i64 bx, .int .i64 b_y], .agg #[.int .i64 cx, .int .i64 cy], .agg #[.int .i64 px, .int .i64 py]] w
      fun e w' => e = .returned (.bool (inB ax ay bx b_y cx cy px py)) ∧ Below w.heap.size w w' := by
  rw [← inB_rinB]
  exact rin_b ax ay bx b_y cx cy px py w h
end Go.Proofs.Ytoojifpgdmhmcaa
