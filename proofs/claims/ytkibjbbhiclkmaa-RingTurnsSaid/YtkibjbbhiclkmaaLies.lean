/- Walks of On, and of the document's. -/
import Derived.Test.YtkibjbbhiclkmaaArea
namespace Go.Proofs.Ytkibjbbhiclkmaa
open Go.RowKit

def betB (a b v : Int) : Bool := decide (min a b ≤ v) && decide (v ≤ max a b)
theorem between_b (a b v : Int) (w : World) : Calls Try.prog 96 #[.int .i64 a, .int .i64 b, .int .i64 v] w fun e w' => e = .returned (.bool (betB a b v)) ∧ w = w' := between_any a b v w

/-- p lies on the segment from a to b, of points that may be. -/
def onI (ax ay bx b_y px py : Int) : Bool :=
  if ax = bx ∧ ay = b_y then decide (px = ax ∧ py = ay)
  else decide (crI ax ay bx b_y px py = 0) && betB ax bx px && betB ay b_y py
def onV (ax ay bx b_y px py : Int) : Bool := ok3 ax ay bx b_y px py && onI ax ay bx b_y px py

theorem sgn_zero (n : Int) : sgn n = 0 ↔ n = 0 := by unfold sgn; split <;> (try split) <;> omega
theorem crV_ok {ax ay bx b_y cx cy : Int} (h : ok3 ax ay bx b_y cx cy = true) : crV ax ay bx b_y cx cy = crI ax ay bx b_y cx cy := by
  unfold crV; rw [if_pos h]

set_option maxHeartbeats 400000 in
theorem on_wrong (ax ay bx b_y px py : Int) (w : World) (H : Hid (ok3 ax ay bx b_y px py = false)) :
    Calls Try.prog 59 #[.agg #[.int .i64 ax, .int .i64 ay], .agg #[.int .i64 bx, .int .i64 b_y], .agg #[.int .i64 px, .int .i64 py]] w
      fun e w' => e = .returned (.bool false) ∧ Below w.heap.size w w' := by
  go_enter Try.func59, Try.ntmps59
  go_wp2_with fail
  refine (right3 _ _ ax ay bx b_y px py (by simp) (by go_simp) (by go_simp) (by go_simp) (by go_simp) (by go_simp) (by go_simp)).mono ?_
  rintro e w1 ⟨rfl, hb1⟩
  rw [H.out]
  go_wp2
  go_ret
  exact ⟨rfl, (b4 _ _ _ _ _).trans (hb1.mono (by simp <;> omega))⟩

set_option maxHeartbeats 400000 in
theorem on_point (ax ay px py : Int) (w : World) (H : Hid (ok3 ax ay ax ay px py = true)) :
    Calls Try.prog 59 #[.agg #[.int .i64 ax, .int .i64 ay], .agg #[.int .i64 ax, .int .i64 ay], .agg #[.int .i64 px, .int .i64 py]] w
      fun e w' => e = .returned (.bool (decide (px = ax ∧ py = ay))) ∧ Below w.heap.size w w' := by
  go_enter Try.func59, Try.ntmps59
  go_wp2_with fail
  refine (right3 _ _ ax ay ax ay px py (by simp) (by go_simp) (by go_simp) (by go_simp) (by go_simp) (by go_simp) (by go_simp)).mono ?_
  rintro e w1 ⟨rfl, hb1⟩
  rw [H.out]
  obtain ⟨hc1, hf1⟩ := bcell hb1
  go_wp2
  all_goals
    go_ret
    exact ⟨ret_bool (by simp [*]), (b4 _ _ _ _ _).trans (hb1.mono (by simp <;> omega))⟩

set_option maxHeartbeats 800000 in
theorem on_seg_a_tt (ax ay bx b_y px py : Int) (w : World) (H : Hid (ok3 ax ay bx b_y px py = true)) (hne : (ax == bx) = false) (h1 : betB ax bx px = true) (h2 : betB ay b_y py = true) (HT : Hid (sgn (crV ax ay bx b_y px py) = 0)) :
    Calls Try.prog 59 #[.agg #[.int .i64 ax, .int .i64 ay], .agg #[.int .i64 bx, .int .i64 b_y], .agg #[.int .i64 px, .int .i64 py]] w
      fun e w' => e = .returned (.bool true) ∧ Below w.heap.size w w' := by
  go_enter Try.func59, Try.ntmps59
  go_wp2_with fail
  refine (right3 _ _ ax ay bx b_y px py (by simp) (by go_simp) (by go_simp) (by go_simp) (by go_simp) (by go_simp) (by go_simp)).mono ?_
  rintro e w1 ⟨rfl, hb1⟩
  rw [H.out]
  have B1 := ((Box3.new w 24 ax ay bx b_y px py).more _).keep hb1
  obtain ⟨k1, k2, k3, k4, k5, k6⟩ := B1.cells
  have hB1 := (b4 _ _ _ _ _).trans (hb1.mono (by simp <;> omega))
  have HB1 := Lib.hid B1
  clear hb1 B1
  go_wp2_with (first | (go_at_call 61; refine (turn_any _ _ _ _ _ _ _).mono ?_; rintro e w2 ⟨rfl, hb2⟩; rw [HT.out]; obtain ⟨k7, k8, k9, k10, k11, k12⟩ := (HB1.out.keep hb2).cells; have hB2 := hB1.trans (hb2.mono hB1.size)) | (go_at_call 96; refine (between_b _ _ _ _).mono ?_; rintro e w3 ⟨rfl, rfl⟩))
  go_ret
  exact ⟨rfl, by assumption⟩
set_option maxHeartbeats 800000 in
theorem on_seg_a_tf (ax ay bx b_y px py : Int) (w : World) (H : Hid (ok3 ax ay bx b_y px py = true)) (hne : (ax == bx) = false) (h1 : betB ax bx px = true) (h2 : betB ay b_y py = false) (HT : Hid (sgn (crV ax ay bx b_y px py) = 0)) :
    Calls Try.prog 59 #[.agg #[.int .i64 ax, .int .i64 ay], .agg #[.int .i64 bx, .int .i64 b_y], .agg #[.int .i64 px, .int .i64 py]] w
      fun e w' => e = .returned (.bool false) ∧ Below w.heap.size w w' := by
  go_enter Try.func59, Try.ntmps59
  go_wp2_with fail
  refine (right3 _ _ ax ay bx b_y px py (by simp) (by go_simp) (by go_simp) (by go_simp) (by go_simp) (by go_simp) (by go_simp)).mono ?_
  rintro e w1 ⟨rfl, hb1⟩
  rw [H.out]
  have B1 := ((Box3.new w 24 ax ay bx b_y px py).more _).keep hb1
  obtain ⟨k1, k2, k3, k4, k5, k6⟩ := B1.cells
  have hB1 := (b4 _ _ _ _ _).trans (hb1.mono (by simp <;> omega))
  have HB1 := Lib.hid B1
  clear hb1 B1
  go_wp2_with (first | (go_at_call 61; refine (turn_any _ _ _ _ _ _ _).mono ?_; rintro e w2 ⟨rfl, hb2⟩; rw [HT.out]; obtain ⟨k7, k8, k9, k10, k11, k12⟩ := (HB1.out.keep hb2).cells; have hB2 := hB1.trans (hb2.mono hB1.size)) | (go_at_call 96; refine (between_b _ _ _ _).mono ?_; rintro e w3 ⟨rfl, rfl⟩))
  go_ret
  exact ⟨rfl, by assumption⟩
set_option maxHeartbeats 800000 in
theorem on_seg_a_ft (ax ay bx b_y px py : Int) (w : World) (H : Hid (ok3 ax ay bx b_y px py = true)) (hne : (ax == bx) = false) (h1 : betB ax bx px = false) (_h2 : betB ay b_y py = true) (HT : Hid (sgn (crV ax ay bx b_y px py) = 0)) :
    Calls Try.prog 59 #[.agg #[.int .i64 ax, .int .i64 ay], .agg #[.int .i64 bx, .int .i64 b_y], .agg #[.int .i64 px, .int .i64 py]] w
      fun e w' => e = .returned (.bool false) ∧ Below w.heap.size w w' := by
  go_enter Try.func59, Try.ntmps59
  go_wp2_with fail
  refine (right3 _ _ ax ay bx b_y px py (by simp) (by go_simp) (by go_simp) (by go_simp) (by go_simp) (by go_simp) (by go_simp)).mono ?_
  rintro e w1 ⟨rfl, hb1⟩
  rw [H.out]
  have B1 := ((Box3.new w 24 ax ay bx b_y px py).more _).keep hb1
  obtain ⟨k1, k2, k3, k4, k5, k6⟩ := B1.cells
  have hB1 := (b4 _ _ _ _ _).trans (hb1.mono (by simp <;> omega))
  have HB1 := Lib.hid B1
  clear hb1 B1
  go_wp2_with (first | (go_at_call 61; refine (turn_any _ _ _ _ _ _ _).mono ?_; rintro e w2 ⟨rfl, hb2⟩; rw [HT.out]; obtain ⟨k7, k8, k9, k10, k11, k12⟩ := (HB1.out.keep hb2).cells; have hB2 := hB1.trans (hb2.mono hB1.size)) | (go_at_call 96; refine (between_b _ _ _ _).mono ?_; rintro e w3 ⟨rfl, rfl⟩))
  go_ret
  exact ⟨rfl, by assumption⟩
set_option maxHeartbeats 800000 in
theorem on_seg_a_ff (ax ay bx b_y px py : Int) (w : World) (H : Hid (ok3 ax ay bx b_y px py = true)) (hne : (ax == bx) = false) (h1 : betB ax bx px = false) (_h2 : betB ay b_y py = false) (HT : Hid (sgn (crV ax ay bx b_y px py) = 0)) :
    Calls Try.prog 59 #[.agg #[.int .i64 ax, .int .i64 ay], .agg #[.int .i64 bx, .int .i64 b_y], .agg #[.int .i64 px, .int .i64 py]] w
      fun e w' => e = .returned (.bool false) ∧ Below w.heap.size w w' := by
  go_enter Try.func59, Try.ntmps59
  go_wp2_with fail
  refine (right3 _ _ ax ay bx b_y px py (by simp) (by go_simp) (by go_simp) (by go_simp) (by go_simp) (by go_simp) (by go_simp)).mono ?_
  rintro e w1 ⟨rfl, hb1⟩
  rw [H.out]
  have B1 := ((Box3.new w 24 ax ay bx b_y px py).more _).keep hb1
  obtain ⟨k1, k2, k3, k4, k5, k6⟩ := B1.cells
  have hB1 := (b4 _ _ _ _ _).trans (hb1.mono (by simp <;> omega))
  have HB1 := Lib.hid B1
  clear hb1 B1
  go_wp2_with (first | (go_at_call 61; refine (turn_any _ _ _ _ _ _ _).mono ?_; rintro e w2 ⟨rfl, hb2⟩; rw [HT.out]; obtain ⟨k7, k8, k9, k10, k11, k12⟩ := (HB1.out.keep hb2).cells; have hB2 := hB1.trans (hb2.mono hB1.size)) | (go_at_call 96; refine (between_b _ _ _ _).mono ?_; rintro e w3 ⟨rfl, rfl⟩))
  go_ret
  exact ⟨rfl, by assumption⟩
set_option maxHeartbeats 800000 in
theorem on_seg_a_z (ax ay bx b_y px py : Int) (w : World) (H : Hid (ok3 ax ay bx b_y px py = true)) (hne : (ax == bx) = false) (HT : Hid (¬ sgn (crV ax ay bx b_y px py) = 0)) :
    Calls Try.prog 59 #[.agg #[.int .i64 ax, .int .i64 ay], .agg #[.int .i64 bx, .int .i64 b_y], .agg #[.int .i64 px, .int .i64 py]] w
      fun e w' => e = .returned (.bool false) ∧ Below w.heap.size w w' := by
  go_enter Try.func59, Try.ntmps59
  go_wp2_with fail
  refine (right3 _ _ ax ay bx b_y px py (by simp) (by go_simp) (by go_simp) (by go_simp) (by go_simp) (by go_simp) (by go_simp)).mono ?_
  rintro e w1 ⟨rfl, hb1⟩
  rw [H.out]
  have B1 := ((Box3.new w 24 ax ay bx b_y px py).more _).keep hb1
  obtain ⟨k1, k2, k3, k4, k5, k6⟩ := B1.cells
  have hB1 := (b4 _ _ _ _ _).trans (hb1.mono (by simp <;> omega))
  have HB1 := Lib.hid B1
  clear hb1 B1
  go_wp2_with fail
  refine (turn_any _ _ _ _ _ _ _).mono ?_
  rintro e w2 ⟨rfl, hb2⟩
  obtain ⟨k7, k8, k9, k10, k11, k12⟩ := (HB1.out.keep hb2).cells
  have hB2 := hB1.trans (hb2.mono hB1.size)
  have ht : (sgn (crV ax ay bx b_y px py) == 0) = false := beq_eq_false_iff_ne.2 HT.out
  generalize sgn (crV ax ay bx b_y px py) = t at *
  clear HT
  go_wp2
  go_ret
  exact ⟨rfl, by assumption⟩
set_option maxHeartbeats 800000 in
theorem on_seg_b_tt (ax ay bx b_y px py : Int) (w : World) (H : Hid (ok3 ax ay bx b_y px py = true)) (he : Hid (ax = bx)) (hne : (ay == b_y) = false) (h1 : betB ax bx px = true) (h2 : betB ay b_y py = true) (HT : Hid (sgn (crV ax ay bx b_y px py) = 0)) :
    Calls Try.prog 59 #[.agg #[.int .i64 ax, .int .i64 ay], .agg #[.int .i64 bx, .int .i64 b_y], .agg #[.int .i64 px, .int .i64 py]] w
      fun e w' => e = .returned (.bool true) ∧ Below w.heap.size w w' := by
  obtain rfl : ax = bx := he.out
  clear he
  go_enter Try.func59, Try.ntmps59
  go_wp2_with fail
  refine (right3 _ _ ax ay ax b_y px py (by simp) (by go_simp) (by go_simp) (by go_simp) (by go_simp) (by go_simp) (by go_simp)).mono ?_
  rintro e w1 ⟨rfl, hb1⟩
  rw [H.out]
  have B1 := ((Box3.new w 24 ax ay ax b_y px py).more _).keep hb1
  obtain ⟨k1, k2, k3, k4, k5, k6⟩ := B1.cells
  have hB1 := (b4 _ _ _ _ _).trans (hb1.mono (by simp <;> omega))
  have HB1 := Lib.hid B1
  clear hb1 B1
  go_wp2_with (first | (go_at_call 61; refine (turn_any _ _ _ _ _ _ _).mono ?_; rintro e w2 ⟨rfl, hb2⟩; rw [HT.out]; obtain ⟨k7, k8, k9, k10, k11, k12⟩ := (HB1.out.keep hb2).cells; have hB2 := hB1.trans (hb2.mono hB1.size)) | (go_at_call 96; refine (between_b _ _ _ _).mono ?_; rintro e w3 ⟨rfl, rfl⟩))
  go_ret
  exact ⟨rfl, by assumption⟩
set_option maxHeartbeats 800000 in
theorem on_seg_b_tf (ax ay bx b_y px py : Int) (w : World) (H : Hid (ok3 ax ay bx b_y px py = true)) (he : Hid (ax = bx)) (hne : (ay == b_y) = false) (h1 : betB ax bx px = true) (h2 : betB ay b_y py = false) (HT : Hid (sgn (crV ax ay bx b_y px py) = 0)) :
    Calls Try.prog 59 #[.agg #[.int .i64 ax, .int .i64 ay], .agg #[.int .i64 bx, .int .i64 b_y], .agg #[.int .i64 px, .int .i64 py]] w
      fun e w' => e = .returned (.bool false) ∧ Below w.heap.size w w' := by
  obtain rfl : ax = bx := he.out
  clear he
  go_enter Try.func59, Try.ntmps59
  go_wp2_with fail
  refine (right3 _ _ ax ay ax b_y px py (by simp) (by go_simp) (by go_simp) (by go_simp) (by go_simp) (by go_simp) (by go_simp)).mono ?_
  rintro e w1 ⟨rfl, hb1⟩
  rw [H.out]
  have B1 := ((Box3.new w 24 ax ay ax b_y px py).more _).keep hb1
  obtain ⟨k1, k2, k3, k4, k5, k6⟩ := B1.cells
  have hB1 := (b4 _ _ _ _ _).trans (hb1.mono (by simp <;> omega))
  have HB1 := Lib.hid B1
  clear hb1 B1
  go_wp2_with (first | (go_at_call 61; refine (turn_any _ _ _ _ _ _ _).mono ?_; rintro e w2 ⟨rfl, hb2⟩; rw [HT.out]; obtain ⟨k7, k8, k9, k10, k11, k12⟩ := (HB1.out.keep hb2).cells; have hB2 := hB1.trans (hb2.mono hB1.size)) | (go_at_call 96; refine (between_b _ _ _ _).mono ?_; rintro e w3 ⟨rfl, rfl⟩))
  go_ret
  exact ⟨rfl, by assumption⟩
set_option maxHeartbeats 800000 in
theorem on_seg_b_ft (ax ay bx b_y px py : Int) (w : World) (H : Hid (ok3 ax ay bx b_y px py = true)) (he : Hid (ax = bx)) (hne : (ay == b_y) = false) (h1 : betB ax bx px = false) (_h2 : betB ay b_y py = true) (HT : Hid (sgn (crV ax ay bx b_y px py) = 0)) :
    Calls Try.prog 59 #[.agg #[.int .i64 ax, .int .i64 ay], .agg #[.int .i64 bx, .int .i64 b_y], .agg #[.int .i64 px, .int .i64 py]] w
      fun e w' => e = .returned (.bool false) ∧ Below w.heap.size w w' := by
  obtain rfl : ax = bx := he.out
  clear he
  go_enter Try.func59, Try.ntmps59
  go_wp2_with fail
  refine (right3 _ _ ax ay ax b_y px py (by simp) (by go_simp) (by go_simp) (by go_simp) (by go_simp) (by go_simp) (by go_simp)).mono ?_
  rintro e w1 ⟨rfl, hb1⟩
  rw [H.out]
  have B1 := ((Box3.new w 24 ax ay ax b_y px py).more _).keep hb1
  obtain ⟨k1, k2, k3, k4, k5, k6⟩ := B1.cells
  have hB1 := (b4 _ _ _ _ _).trans (hb1.mono (by simp <;> omega))
  have HB1 := Lib.hid B1
  clear hb1 B1
  go_wp2_with (first | (go_at_call 61; refine (turn_any _ _ _ _ _ _ _).mono ?_; rintro e w2 ⟨rfl, hb2⟩; rw [HT.out]; obtain ⟨k7, k8, k9, k10, k11, k12⟩ := (HB1.out.keep hb2).cells; have hB2 := hB1.trans (hb2.mono hB1.size)) | (go_at_call 96; refine (between_b _ _ _ _).mono ?_; rintro e w3 ⟨rfl, rfl⟩))
  go_ret
  exact ⟨rfl, by assumption⟩
set_option maxHeartbeats 800000 in
theorem on_seg_b_ff (ax ay bx b_y px py : Int) (w : World) (H : Hid (ok3 ax ay bx b_y px py = true)) (he : Hid (ax = bx)) (hne : (ay == b_y) = false) (h1 : betB ax bx px = false) (_h2 : betB ay b_y py = false) (HT : Hid (sgn (crV ax ay bx b_y px py) = 0)) :
    Calls Try.prog 59 #[.agg #[.int .i64 ax, .int .i64 ay], .agg #[.int .i64 bx, .int .i64 b_y], .agg #[.int .i64 px, .int .i64 py]] w
      fun e w' => e = .returned (.bool false) ∧ Below w.heap.size w w' := by
  obtain rfl : ax = bx := he.out
  clear he
  go_enter Try.func59, Try.ntmps59
  go_wp2_with fail
  refine (right3 _ _ ax ay ax b_y px py (by simp) (by go_simp) (by go_simp) (by go_simp) (by go_simp) (by go_simp) (by go_simp)).mono ?_
  rintro e w1 ⟨rfl, hb1⟩
  rw [H.out]
  have B1 := ((Box3.new w 24 ax ay ax b_y px py).more _).keep hb1
  obtain ⟨k1, k2, k3, k4, k5, k6⟩ := B1.cells
  have hB1 := (b4 _ _ _ _ _).trans (hb1.mono (by simp <;> omega))
  have HB1 := Lib.hid B1
  clear hb1 B1
  go_wp2_with (first | (go_at_call 61; refine (turn_any _ _ _ _ _ _ _).mono ?_; rintro e w2 ⟨rfl, hb2⟩; rw [HT.out]; obtain ⟨k7, k8, k9, k10, k11, k12⟩ := (HB1.out.keep hb2).cells; have hB2 := hB1.trans (hb2.mono hB1.size)) | (go_at_call 96; refine (between_b _ _ _ _).mono ?_; rintro e w3 ⟨rfl, rfl⟩))
  go_ret
  exact ⟨rfl, by assumption⟩
set_option maxHeartbeats 800000 in
theorem on_seg_b_z (ax ay bx b_y px py : Int) (w : World) (H : Hid (ok3 ax ay bx b_y px py = true)) (he : Hid (ax = bx)) (hne : (ay == b_y) = false) (HT : Hid (¬ sgn (crV ax ay bx b_y px py) = 0)) :
    Calls Try.prog 59 #[.agg #[.int .i64 ax, .int .i64 ay], .agg #[.int .i64 bx, .int .i64 b_y], .agg #[.int .i64 px, .int .i64 py]] w
      fun e w' => e = .returned (.bool false) ∧ Below w.heap.size w w' := by
  obtain rfl : ax = bx := he.out
  clear he
  go_enter Try.func59, Try.ntmps59
  go_wp2_with fail
  refine (right3 _ _ ax ay ax b_y px py (by simp) (by go_simp) (by go_simp) (by go_simp) (by go_simp) (by go_simp) (by go_simp)).mono ?_
  rintro e w1 ⟨rfl, hb1⟩
  rw [H.out]
  have B1 := ((Box3.new w 24 ax ay ax b_y px py).more _).keep hb1
  obtain ⟨k1, k2, k3, k4, k5, k6⟩ := B1.cells
  have hB1 := (b4 _ _ _ _ _).trans (hb1.mono (by simp <;> omega))
  have HB1 := Lib.hid B1
  clear hb1 B1
  go_wp2_with fail
  refine (turn_any _ _ _ _ _ _ _).mono ?_
  rintro e w2 ⟨rfl, hb2⟩
  obtain ⟨k7, k8, k9, k10, k11, k12⟩ := (HB1.out.keep hb2).cells
  have hB2 := hB1.trans (hb2.mono hB1.size)
  have ht : (sgn (crV ax ay ax b_y px py) == 0) = false := beq_eq_false_iff_ne.2 HT.out
  generalize sgn (crV ax ay ax b_y px py) = t at *
  clear HT
  go_wp2
  go_ret
  exact ⟨rfl, by assumption⟩

theorem on_any (ax ay bx b_y px py : Int) (w : World) :
    Calls Try.prog 59 #[.agg #[.int .i64 ax, .int .i64 ay], .agg #[.int .i64 bx, .int .i64 b_y], .agg #[.int .i64 px, .int .i64 py]] w
      fun e w' => e = .returned (.bool (onV ax ay bx b_y px py)) ∧ Below w.heap.size w w' := by
  unfold onV
  cases h : ok3 ax ay bx b_y px py
  · exact on_wrong ax ay bx b_y px py w (Lib.hid h)
  · rw [Bool.true_and]
    unfold onI
    have HC := crV_ok h
    by_cases he : ax = bx ∧ ay = b_y
    · rw [if_pos he]
      obtain ⟨rfl, rfl⟩ := he
      exact on_point ax ay px py w (Lib.hid h)
    · rw [if_neg he]
      by_cases hz : crI ax ay bx b_y px py = 0
      · have HT : Hid (sgn (crV ax ay bx b_y px py) = 0) := Lib.hid ((sgn_zero _).2 (by rw [HC]; exact hz))
        rw [decide_eq_true hz, Bool.true_and]
        by_cases hx : ax = bx
        · have hy : (ay == b_y) = false := beq_eq_false_iff_ne.2 (fun hy => he ⟨hx, hy⟩)
          cases h1 : betB ax bx px <;> cases h2 : betB ay b_y py
          · exact on_seg_b_ff ax ay bx b_y px py w (Lib.hid h) (Lib.hid hx) hy h1 h2 HT
          · exact on_seg_b_ft ax ay bx b_y px py w (Lib.hid h) (Lib.hid hx) hy h1 h2 HT
          · exact on_seg_b_tf ax ay bx b_y px py w (Lib.hid h) (Lib.hid hx) hy h1 h2 HT
          · exact on_seg_b_tt ax ay bx b_y px py w (Lib.hid h) (Lib.hid hx) hy h1 h2 HT
        · have hx' : (ax == bx) = false := beq_eq_false_iff_ne.2 hx
          cases h1 : betB ax bx px <;> cases h2 : betB ay b_y py
          · exact on_seg_a_ff ax ay bx b_y px py w (Lib.hid h) hx' h1 h2 HT
          · exact on_seg_a_ft ax ay bx b_y px py w (Lib.hid h) hx' h1 h2 HT
          · exact on_seg_a_tf ax ay bx b_y px py w (Lib.hid h) hx' h1 h2 HT
          · exact on_seg_a_tt ax ay bx b_y px py w (Lib.hid h) hx' h1 h2 HT
      · have HT : Hid (¬ sgn (crV ax ay bx b_y px py) = 0) := Lib.hid (fun k => hz (by rw [← HC]; exact (sgn_zero _).1 k))
        rw [decide_eq_false hz, Bool.false_and, Bool.false_and]
        by_cases hx : ax = bx
        · exact on_seg_b_z ax ay bx b_y px py w (Lib.hid h) (Lib.hid hx) (beq_eq_false_iff_ne.2 (fun hy => he ⟨hx, hy⟩)) HT
        · exact on_seg_a_z ax ay bx b_y px py w (Lib.hid h) (beq_eq_false_iff_ne.2 hx) HT
theorem onV_ok {ax ay bx b_y px py : Int} (h : ok3 ax ay bx b_y px py = true) : onV ax ay bx b_y px py = onI ax ay bx b_y px py := by
  unfold onV; rw [h, Bool.true_and]
theorem crV_in (ax ay bx b_y cx cy : Int) : -2251799813685248 ≤ crV ax ay bx b_y cx cy ∧ crV ax ay bx b_y cx cy ≤ 2251799813685248 := by
  unfold crV
  split
  · rename_i h
    obtain ⟨q1, q2, q3, q4⟩ := crI_parts _ _ _ _ _ _ h
    have m1 := mul_in _ _ 33554432 33554432 q1 q2
    have m2 := mul_in _ _ 33554432 33554432 q3 q4
    unfold crI
    omega
  · omega
end Go.Proofs.Ytkibjbbhiclkmaa
