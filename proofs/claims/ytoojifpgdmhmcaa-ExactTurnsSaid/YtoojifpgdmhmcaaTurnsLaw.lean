/- The walk of ExactTurns. -/
import Derived.Test.YtoojifpgdmhmcaaSym
namespace Go.Proofs.Ytoojifpgdmhmcaa
open Go.RowKit

set_option maxRecDepth 100000 in
set_option maxHeartbeats 2000000 in
theorem turns_1 (ax ay bx b_y cx cy px py : Int) (w : World) (n : Int) (hn1 : -2251799813685248 ≤ n) (hn2 : n ≤ 2251799813685248) (H1 : Hid (crV ax ay bx b_y cx cy = n)) (H2 : Hid (crV bx b_y ax ay cx cy = -n)) (H3 : Hid (crV bx b_y cx cy ax ay = n)) (H4 : Hid (crV cx cy ax ay bx b_y = n)) (H5 : Hid (crV ax ay bx b_y bx b_y = 0))
    (t o : Bool) (H6 : Hid (inV ax ay bx b_y cx cy px py = t)) (H7 : Hid (inV bx b_y cx cy ax ay px py = t)) (H8 : Hid (inV bx b_y ax ay cx cy px py = t)) (H9 : Hid (onV ax ay bx b_y px py = o)) (H10 : Hid (onV bx b_y ax ay px py = o))
    (r q : Bool) (Hr : Hid (ok3 ax ay bx b_y cx cy = r)) (Ht : Hid (r = false → t = false)) (K1 : Hid (r = true → inV ax ay bx b_y cx cy ax ay = true)) (K2 : Hid (r = true → inV ax ay bx b_y cx cy bx b_y = true)) (K3 : Hid (r = true → inV ax ay bx b_y cx cy cx cy = true)) (K4 : Hid (r = true → onV ax ay bx b_y bx b_y = true)) (K5 : Hid (onV ax ay ax ay px py = q)) (Ho : Hid (r = true → o = false → q = false)) :
    Calls Try.prog 7 #[.agg #[.int .i64 ax, .int .i64 ay], .agg #[.int .i64 bx, .int .i64 b_y], .agg #[.int .i64 cx, .int .i64 cy], .agg #[.int .i64 px, .int .i64 py]] w
      fun e w' => e = .returned (.bool true) ∧ Below w.heap.size w w' := by
  have hnn : IntKind.i64.wrap (-n) = -n := IntWalk.i64_in _ (by omega)
  have hnq : ((-n) != (-n)) = false := by simp
  have hnm : (n != n) = false := by simp
  go_enter Try.func7, Try.ntmps7
  go_wp2_with fail
  refine (cross_any _ _ _ _ _ _ _).mono ?_
  rintro e w1 ⟨rfl, hb1⟩
  rw [H1.out]
  have hS0 := keep8 (w := w) (a0 := ⟨w.heap.size, 0, none⟩) (v0 := .int .i64 ax) (a1 := ⟨w.heap.size, 1, none⟩) (v1 := .int .i64 ay) (a2 := ⟨w.heap.size + 1, 0, none⟩) (v2 := .int .i64 bx) (a3 := ⟨w.heap.size + 1, 1, none⟩) (v3 := .int .i64 b_y) (a4 := ⟨w.heap.size + 1 + 1, 0, none⟩) (v4 := .int .i64 cx) (a5 := ⟨w.heap.size + 1 + 1, 1, none⟩) (v5 := .int .i64 cy) (a6 := ⟨w.heap.size + 1 + 1 + 1, 0, none⟩) (v6 := .int .i64 px) (a7 := ⟨w.heap.size + 1 + 1 + 1, 1, none⟩) (v7 := .int .i64 py) hb1 ⟨by go_simp, by go_simp, by go_simp, by go_simp, by go_simp, by go_simp, by go_simp, by go_simp, b4 _ _ _ _ _⟩
  have hS1 := hS0
  clear hb1 hS0
  go_wp2_with fail
  refine (cross_any _ _ _ _ _ _ _).mono ?_
  rintro e w2 ⟨rfl, hb2⟩
  rw [H2.out]
  have hS2 := keep8 hb2 hS1
  clear hb2 hS1
  go_wp2_with fail
  refine (cross_any _ _ _ _ _ _ _).mono ?_
  rintro e w3 ⟨rfl, hb3⟩
  rw [H3.out]
  have hS3 := keep8 hb3 hS2
  clear hb3 hS2
  go_wp2_with fail
  refine (cross_any _ _ _ _ _ _ _).mono ?_
  rintro e w4 ⟨rfl, hb4⟩
  rw [H4.out]
  have hS4 := keep8 hb4 hS3
  clear hb4 hS3
  go_wp2_with fail
  refine (cross_any _ _ _ _ _ _ _).mono ?_
  rintro e w5 ⟨rfl, hb5⟩
  rw [H5.out]
  have hS5 := keep8 hb5 hS4
  clear hb5 hS4
  go_wp2_with fail
  refine (intri_any _ _ _ _ _ _ _ _ _).mono ?_
  rintro e w6 ⟨rfl, hb6⟩
  rw [H6.out]
  have hS6 := keep8 hb6 hS5
  clear hb6 hS5
  have htt : (t != t) = false := by simp
  have hoo : (o != o) = false := by simp
  go_wp2_with fail
  go_region_held3 (fun w' => w'.cell? ⟨w.heap.size, 0, none⟩ = some (.int .i64 ax) ∧ w'.cell? ⟨w.heap.size, 1, none⟩ = some (.int .i64 ay) ∧ w'.cell? ⟨w.heap.size + 1, 0, none⟩ = some (.int .i64 bx) ∧ w'.cell? ⟨w.heap.size + 1, 1, none⟩ = some (.int .i64 b_y) ∧ w'.cell? ⟨w.heap.size + 1 + 1, 0, none⟩ = some (.int .i64 cx) ∧ w'.cell? ⟨w.heap.size + 1 + 1, 1, none⟩ = some (.int .i64 cy) ∧ w'.cell? ⟨w.heap.size + 1 + 1 + 1, 0, none⟩ = some (.int .i64 px) ∧ w'.cell? ⟨w.heap.size + 1 + 1 + 1, 1, none⟩ = some (.int .i64 py) ∧ Below w.heap.size w w') (first | exact hS8 | exact ⟨hS6.1, hS6.2.1, hS6.2.2.1, hS6.2.2.2.1, hS6.2.2.2.2.1, hS6.2.2.2.2.2.1, hS6.2.2.2.2.2.2.1, hS6.2.2.2.2.2.2.2.1, hS6.2.2.2.2.2.2.2.2.drew⟩ | assumption) (first | (go_at_call 23; refine (intri_any _ _ _ _ _ _ _ _ _).mono ?_; rintro e w8 ⟨rfl, hb8⟩; (first | rw [H7.out] | rw [H8.out]); have hS8 := keep8 hb8 (by assumption)) | (go_at_call 22; refine (on_any _ _ _ _ _ _ _).mono ?_; rintro e w8 ⟨rfl, hb8⟩; (first | rw [H9.out] | rw [H10.out]); have hS8 := keep8 hb8 (by assumption)))
  have hS8 := keep8 (b1 _ (.cells #[.int .i64 ax, .int .i64 ay, .int .i64 bx, .int .i64 b_y, .int .i64 cx, .int .i64 cy] 23)) hS8
  go_wp2_with fail
  refine (right3 _ _ ax ay bx b_y cx cy (by simp) (by go_simp) (by go_simp) (by go_simp) (by go_simp) (by go_simp) (by go_simp)).mono ?_
  rintro e w9 ⟨rfl, hb9⟩
  rw [Hr.out]
  have hS9 := keep8 hb9 hS8
  clear hb9 hS8
  cases r
  · obtain rfl : t = false := Ht.out rfl
    go_wp2_with fail
    refine (known_yes _).mono ?_
    rintro e w10 ⟨rfl, hb10⟩
    have hS10 := keep8 hb10 hS9
    go_wp2
    go_ret
    exact ⟨rfl, hS10.2.2.2.2.2.2.2.2⟩
  · have J1 := Lib.hid (K1.out rfl)
    have J2 := Lib.hid (K2.out rfl)
    have J3 := Lib.hid (K3.out rfl)
    have J4 := Lib.hid (K4.out rfl)
    have Jo := Lib.hid (Ho.out rfl)
    go_wp2_with fail
    refine (known_yes _).mono ?_
    rintro e w10 ⟨rfl, hb10⟩
    have hS10 := keep8 hb10 hS9
    clear hb10 hS9
    go_wp2_with fail
    refine (intri_any _ _ _ _ _ _ _ _ _).mono ?_
    rintro e w11 ⟨rfl, hb11⟩
    rw [J1.out]
    have hS11 := keep8 hb11 hS10
    clear hb11 hS10
    go_wp2_with fail
    refine (intri_any _ _ _ _ _ _ _ _ _).mono ?_
    rintro e w12 ⟨rfl, hb12⟩
    rw [J2.out]
    have hS12 := keep8 hb12 hS11
    clear hb12 hS11
    go_wp2_with fail
    refine (intri_any _ _ _ _ _ _ _ _ _).mono ?_
    rintro e w13 ⟨rfl, hb13⟩
    rw [J3.out]
    have hS13 := keep8 hb13 hS12
    clear hb13 hS12
    go_wp2_with fail
    refine (on_any _ _ _ _ _ _ _).mono ?_
    rintro e w14 ⟨rfl, hb14⟩
    rw [J4.out]
    have hS14 := keep8 hb14 hS13
    clear hb14 hS13
    cases o
    · have hf : q = false := Jo.out rfl
      subst hf
      go_wp2_with fail
      refine (on_any _ _ _ _ _ _ _).mono ?_
      rintro e w15 ⟨rfl, hb15⟩
      rw [H9.out]
      have hS15 := keep8 hb15 hS14
      clear hb15 hS14
      go_wp2_with fail
      refine (on_any _ _ _ _ _ _ _).mono ?_
      rintro e w16 ⟨rfl, hb16⟩
      rw [K5.out]
      have hS16 := keep8 hb16 hS15
      clear hb16 hS15
      go_wp2
      go_ret
      exact ⟨rfl, hS16.2.2.2.2.2.2.2.2⟩
    · clear Jo
      go_wp2_with fail
      refine (on_any _ _ _ _ _ _ _).mono ?_
      rintro e w15 ⟨rfl, hb15⟩
      rw [H9.out]
      have hS15 := keep8 hb15 hS14
      clear hb15 hS14
      go_wp2
      go_ret
      exact ⟨rfl, hS15.2.2.2.2.2.2.2.2⟩

theorem turns_any (ax ay bx b_y cx cy px py : Int) (w : World) :
    Calls Try.prog 7 #[.agg #[.int .i64 ax, .int .i64 ay], .agg #[.int .i64 bx, .int .i64 b_y], .agg #[.int .i64 cx, .int .i64 cy], .agg #[.int .i64 px, .int .i64 py]] w
      fun e w' => e = .returned (.bool true) ∧ Below w.heap.size w w' := by
  obtain ⟨n1, n2⟩ := crV_in ax ay bx b_y cx cy
  refine turns_1 ax ay bx b_y cx cy px py w _ n1 n2 (Lib.hid rfl) (Lib.hid (crV_swap _ _ _ _ _ _)) (Lib.hid (crV_turn _ _ _ _ _ _)) (Lib.hid ((crV_turn _ _ _ _ _ _).trans (crV_turn _ _ _ _ _ _))) (Lib.hid (crV_flat _ _ _ _))
    _ _ (Lib.hid rfl) (Lib.hid (inV_turn _ _ _ _ _ _ _ _)) (Lib.hid (inV_swap _ _ _ _ _ _ _ _)) (Lib.hid rfl) (Lib.hid (onV_swap _ _ _ _ _ _)) _ _ (Lib.hid rfl) (Lib.hid fun h => inV_wrong _ _ h)
    (Lib.hid fun h => inV_a h) (Lib.hid fun h => inV_b h) (Lib.hid fun h => inV_c h) (Lib.hid fun h => onV_b h) (Lib.hid rfl) (Lib.hid fun h ho => ?_)
  cases hq : onV ax ay ax ay px py
  · rfl
  · rw [onV_aa h hq] at ho
    cases ho
end Go.Proofs.Ytoojifpgdmhmcaa
