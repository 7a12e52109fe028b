/- The walk of Class. -/
import Derived.Test.YtkibjbbhiclkmaaSegClass
namespace Go.Proofs.Ytkibjbbhiclkmaa
open Go.RowKit

theorem init8 (w : World) (T : TypeId) (ax ay bx b_y cx cy dx dy : Int) : (fun W : World => W.cell? ⟨w.heap.size, 0, none⟩ = some (.int .i64 ax) ∧ W.cell? ⟨w.heap.size, 1, none⟩ = some (.int .i64 ay) ∧ W.cell? ⟨w.heap.size + 1, 0, none⟩ = some (.int .i64 bx) ∧ W.cell? ⟨w.heap.size + 1, 1, none⟩ = some (.int .i64 b_y) ∧ W.cell? ⟨w.heap.size + 1 + 1, 0, none⟩ = some (.int .i64 cx) ∧ W.cell? ⟨w.heap.size + 1 + 1, 1, none⟩ = some (.int .i64 cy) ∧ W.cell? ⟨w.heap.size + 1 + 1 + 1, 0, none⟩ = some (.int .i64 dx) ∧ W.cell? ⟨w.heap.size + 1 + 1 + 1, 1, none⟩ = some (.int .i64 dy) ∧ Below w.heap.size w W)
    ((((w.alloc (.cells #[.int .i64 ax, .int .i64 ay] T)).alloc (.cells #[.int .i64 bx, .int .i64 b_y] T)).alloc (.cells #[.int .i64 cx, .int .i64 cy] T)).alloc (.cells #[.int .i64 dx, .int .i64 dy] T)) :=
  ⟨by go_simp, by go_simp, by go_simp, by go_simp, by go_simp, by go_simp, by go_simp, by go_simp, b4 _ _ _ _ _⟩

theorem offI_V {ax ay bx b_y cx cy dx dy : Int} (h : ok4 ax ay bx b_y cx cy dx dy = true) :
    offI ax ay bx b_y cx cy dx dy = if eqB ax ay cx cy || eqB ax ay dx dy || eqB bx b_y cx cy || eqB bx b_y dx dy then 1
      else if onV ax ay bx b_y cx cy || onV ax ay bx b_y dx dy || onV cx cy dx dy ax ay || onV cx cy dx dy bx b_y then 2
      else if parB ax ay bx b_y cx cy dx dy && parB cx cy dx dy ax ay bx b_y then 3 else 0 := by
  obtain ⟨h1, h2, h3, h4⟩ := ok4_3 h
  unfold offI parB
  rw [onV_B h1, onV_B h2, onV_B h3, onV_B h4, crV_ok h1, crV_ok h2, crV_ok h3, crV_ok h4]

set_option maxHeartbeats 2000000 in
theorem offline_any (ax ay bx b_y cx cy dx dy : Int) (w : World) (h : ok4 ax ay bx b_y cx cy dx dy = true) :
    Calls Try.prog 112 #[.agg #[.int .i64 ax, .int .i64 ay], .agg #[.int .i64 bx, .int .i64 b_y], .agg #[.int .i64 cx, .int .i64 cy], .agg #[.int .i64 dx, .int .i64 dy]] w
      fun e w' => e = .returned (.int .i64 (offI ax ay bx b_y cx cy dx dy)) ∧ Below w.heap.size w w' := by
  have HV := Lib.hid (offI_V h)
  clear h
  have q1 := eq_pt ax ay cx cy
  have q2 := eq_pt ax ay dx dy
  have q3 := eq_pt bx b_y cx cy
  have q4 := eq_pt bx b_y dx dy
  have hS0 := init8 w 24 ax ay bx b_y cx cy dx dy
  generalize eqB ax ay cx cy = e1 at q1 HV
  generalize eqB ax ay dx dy = e2 at q2 HV
  generalize eqB bx b_y cx cy = e3 at q3 HV
  generalize eqB bx b_y dx dy = e4 at q4 HV
  generalize hk1 : onV ax ay bx b_y cx cy = o1 at HV
  generalize hk2 : onV ax ay bx b_y dx dy = o2 at HV
  generalize hk3 : onV cx cy dx dy ax ay = o3 at HV
  generalize hk4 : onV cx cy dx dy bx b_y = o4 at HV
  generalize hk5 : parB ax ay bx b_y cx cy dx dy = p1 at HV
  generalize hk6 : parB cx cy dx dy ax ay bx b_y = p2 at HV
  have K1 := Lib.hid hk1; have K2 := Lib.hid hk2; have K3 := Lib.hid hk3; have K4 := Lib.hid hk4; have K5 := Lib.hid hk5; have K6 := Lib.hid hk6
  clear hk1 hk2 hk3 hk4 hk5 hk6
  cases he : (e1 || e2 || e3 || e4)
  · simp only [Bool.or_eq_false_iff] at he
    obtain ⟨⟨⟨z1, z2⟩, z3⟩, z4⟩ := he
    subst z1 z2 z3 z4
    go_enter Try.func112, Try.ntmps112
    go_wp2_with (first | (go_at_call 59; refine (on_any _ _ _ _ _ _ _).mono ?_; rintro e w' ⟨rfl, hb⟩; (first | rw [K1.out] | rw [K2.out] | rw [K3.out] | rw [K4.out]); have hS := keep8 hb (by assumption); have hB := hS.2.2.2.2.2.2.2.2) | (go_at_call 125; refine (parts_any _ _ _ _ _ _ _ _ _).mono ?_; rintro e w' ⟨rfl, hb⟩; (first | rw [K5.out] | rw [K6.out]); have hS := keep8 hb (by assumption); have hB := hS.2.2.2.2.2.2.2.2))
    all_goals
      go_ret
      exact ⟨ret_int (by have h := HV.out; simp_all), by assumption⟩
  · go_enter Try.func112, Try.ntmps112
    go_wp2_with (go_at_call 125; fail)
    all_goals first
      | (exfalso; simp_all; done)
      | (go_ret; exact ⟨ret_int (by have h := HV.out; simp_all), hS0.2.2.2.2.2.2.2.2⟩)

def clsV (ax ay bx b_y cx cy dx dy : Int) : Int :=
  if ok4 ax ay bx b_y cx cy dx dy then (if eqB ax ay bx b_y || eqB cx cy dx dy then 0 else clsI ax ay bx b_y cx cy dx dy) else 0
def errV (ax ay bx b_y cx cy dx dy : Int) : Int :=
  if ok4 ax ay bx b_y cx cy dx dy then (if eqB ax ay bx b_y || eqB cx cy dx dy then 1 else 0) else 5
theorem clsV_no {ax ay bx b_y cx cy dx dy : Int} (h : ok4 ax ay bx b_y cx cy dx dy = false) : clsV ax ay bx b_y cx cy dx dy = 0 ∧ errV ax ay bx b_y cx cy dx dy = 5 := by
  unfold clsV errV; rw [h]; exact ⟨rfl, rfl⟩
theorem clsV_arg {ax ay bx b_y cx cy dx dy : Int} (h : ok4 ax ay bx b_y cx cy dx dy = true) (h2 : (eqB ax ay bx b_y || eqB cx cy dx dy) = true) : clsV ax ay bx b_y cx cy dx dy = 0 ∧ errV ax ay bx b_y cx cy dx dy = 1 := by
  unfold clsV errV; rw [h, h2]; exact ⟨rfl, rfl⟩
theorem clsV_yes {ax ay bx b_y cx cy dx dy : Int} (h : ok4 ax ay bx b_y cx cy dx dy = true) (h2 : (eqB ax ay bx b_y || eqB cx cy dx dy) = false) : clsV ax ay bx b_y cx cy dx dy = clsC ax ay bx b_y cx cy dx dy ∧ errV ax ay bx b_y cx cy dx dy = 0 := by
  unfold clsV errV
  rw [h, h2]
  rw [Bool.or_eq_false_iff] at h2
  refine ⟨?_, rfl⟩
  rw [cls_same]
  · rfl
  · intro k; have := (eqB_iff _ _ _ _).2 k; rw [h2.1] at this; cases this
  · intro k; have := (eqB_iff _ _ _ _).2 k; rw [h2.2] at this; cases this

theorem sg_zero (n : Int) : sg n = 0 ↔ n = 0 := sgn_zero n
theorem clsC_sg {ax ay bx b_y cx cy dx dy : Int} (h1 : ok3 ax ay bx b_y cx cy = true) (h2 : ok3 ax ay bx b_y dx dy = true) :
    clsC ax ay bx b_y cx cy dx dy = if eqB ax ay cx cy && eqB bx b_y dx dy || eqB ax ay dx dy && eqB bx b_y cx cy then 5
        else if sg (crV ax ay bx b_y cx cy) = 0 ∧ sg (crV ax ay bx b_y dx dy) = 0 then linI (ax, ay) (bx, b_y) (cx, cy) (dx, dy) else offI ax ay bx b_y cx cy dx dy := by
  unfold clsC
  rw [crV_ok h1, crV_ok h2]
  by_cases h : crI ax ay bx b_y cx cy = 0 ∧ crI ax ay bx b_y dx dy = 0
  · rw [if_pos h, if_pos (show sg (crI ax ay bx b_y cx cy) = 0 ∧ sg (crI ax ay bx b_y dx dy) = 0 from ⟨(sg_zero _).2 h.1, (sg_zero _).2 h.2⟩)]
  · rw [if_neg h, if_neg (show ¬ (sg (crI ax ay bx b_y cx cy) = 0 ∧ sg (crI ax ay bx b_y dx dy) = 0) from fun k => h ⟨(sg_zero _).1 k.1, (sg_zero _).1 k.2⟩)]
theorem ret2_int {k1 k2 : IntKind} {a b c d : Int} (h1 : a = c) (h2 : b = d) : Ending.returned (.tuple #[.int k1 a, .int k2 b]) = .returned (.tuple #[.int k1 c, .int k2 d]) := by rw [h1, h2]
def ClsPost (ax ay bx b_y cx cy dx dy : Int) (w : World) (e : Ending) (w' : World) : Prop :=
  e = .returned (.tuple #[.int .i64 (clsV ax ay bx b_y cx cy dx dy), .int .i64 (errV ax ay bx b_y cx cy dx dy)]) ∧ Below w.heap.size w w'

set_option maxHeartbeats 2000000 in
theorem class_any (ax ay bx b_y cx cy dx dy : Int) (w : World) :
    Calls Try.prog 103 #[.agg #[.int .i64 ax, .int .i64 ay], .agg #[.int .i64 bx, .int .i64 b_y], .agg #[.int .i64 cx, .int .i64 cy], .agg #[.int .i64 dx, .int .i64 dy]] w
      (ClsPost ax ay bx b_y cx cy dx dy w) := by
  have hS0 := init8 w 24 ax ay bx b_y cx cy dx dy
  have hS1 := keep8 (b1 _ (.cells #[.int .i64 ax, .int .i64 ay, .int .i64 bx, .int .i64 b_y, .int .i64 cx, .int .i64 cy, .int .i64 dx, .int .i64 dy] 24)) hS0
  have HS1 := Lib.hid hS1
  clear hS0 hS1
  cases h : ok4 ax ay bx b_y cx cy dx dy
  · obtain ⟨v1, v2⟩ := clsV_no h
    have V1 := Lib.hid v1; have V2 := Lib.hid v2; have H := Lib.hid h
    clear v1 v2 h
    go_enter Try.func103, Try.ntmps103
    go_wp2_with fail
    refine (right4 _ _ ax ay bx b_y cx cy dx dy (by simp) (by go_simp) (by go_simp) (by go_simp) (by go_simp) (by go_simp) (by go_simp) (by go_simp) (by go_simp)).mono ?_
    rintro e w1 ⟨rfl, hb1⟩
    rw [H.out]
    have hS := keep8 hb1 HS1.out
    go_wp2
    go_ret2
    exact ⟨ret2_int V1.out.symm V2.out.symm, hS.2.2.2.2.2.2.2.2⟩
  · cases h2 : (eqB ax ay bx b_y || eqB cx cy dx dy)
    · obtain ⟨v1, v2⟩ := clsV_yes h h2
      have V1 := Lib.hid v1; have V2 := Lib.hid v2; have H := Lib.hid h
      rw [Bool.or_eq_false_iff] at h2
      have q1 := eq_pt ax ay bx b_y
      rw [h2.1] at q1
      have q2 := eq_pt cx cy dx dy
      rw [h2.2] at q2
      have q3 := eq_pt ax ay cx cy
      have q4 := eq_pt bx b_y dx dy
      have q5 := eq_pt ax ay dx dy
      have q6 := eq_pt bx b_y cx cy
      obtain ⟨k1, k2, _, _⟩ := ok4_3 h
      have HC := Lib.hid (clsC_sg k1 k2)
      clear v1 v2 h k1 k2 h2
      generalize eqB ax ay cx cy = e1 at q3 HC
      generalize eqB bx b_y dx dy = e2 at q4 HC
      generalize eqB ax ay dx dy = e3 at q5 HC
      generalize eqB bx b_y cx cy = e4 at q6 HC
      have K1 := Lib.hid (sg_sgn (crV ax ay bx b_y cx cy))
      have K2 := Lib.hid (sg_sgn (crV ax ay bx b_y dx dy))
      generalize sg (crV ax ay bx b_y cx cy) = s at K1 HC
      generalize sg (crV ax ay bx b_y dx dy) = t at K2 HC
      have HO := fun W => offline_any ax ay bx b_y cx cy dx dy W H.out
      go_enter Try.func103, Try.ntmps103
      go_wp2_with fail
      refine (right4 _ _ ax ay bx b_y cx cy dx dy (by simp) (by go_simp) (by go_simp) (by go_simp) (by go_simp) (by go_simp) (by go_simp) (by go_simp) (by go_simp)).mono ?_
      rintro e w1 ⟨rfl, hb1⟩
      rw [H.out]
      have hS := keep8 hb1 HS1.out
      have hB := hS.2.2.2.2.2.2.2.2
      clear hb1
      go_wp2_with (first | (go_at_call 61; refine (turn_any _ _ _ _ _ _ _).mono ?_; rintro e w' ⟨rfl, hb⟩; (first | rw [K1.out] | rw [K2.out]); have hS := keep8 hb (by assumption); have hB := hS.2.2.2.2.2.2.2.2; clear hb) | (go_at_call 111; refine (online_any _ _ _ _ _ _ _ _ _).mono ?_; rintro e w' ⟨rfl, hb⟩; have hS := keep8 hb (by assumption); have hB := hS.2.2.2.2.2.2.2.2; clear hb) | (go_at_call 112; refine (HO _).mono ?_; rintro e w' ⟨rfl, hb⟩; have hS := keep8 hb (by assumption); have hB := hS.2.2.2.2.2.2.2.2; clear hb))
      all_goals
        go_ret2
        exact ⟨ret2_int (by rw [V1.out, HC.out]; simp_all) V2.out.symm, by assumption⟩
    · obtain ⟨v1, v2⟩ := clsV_arg h h2
      have V1 := Lib.hid v1; have V2 := Lib.hid v2; have H := Lib.hid h
      have q1 := eq_pt ax ay bx b_y
      have q2 := eq_pt cx cy dx dy
      generalize eqB ax ay bx b_y = e1 at q1 h2
      generalize eqB cx cy dx dy = e2 at q2 h2
      clear v1 v2 h
      go_enter Try.func103, Try.ntmps103
      go_wp2_with fail
      refine (right4 _ _ ax ay bx b_y cx cy dx dy (by simp) (by go_simp) (by go_simp) (by go_simp) (by go_simp) (by go_simp) (by go_simp) (by go_simp) (by go_simp)).mono ?_
      rintro e w1 ⟨rfl, hb1⟩
      rw [H.out]
      have hS := keep8 hb1 HS1.out
      cases e1
      · simp at h2
        subst h2
        go_wp2
        go_ret2
        exact ⟨ret2_int V1.out.symm V2.out.symm, hS.2.2.2.2.2.2.2.2⟩
      · go_wp2
        go_ret2
        exact ⟨ret2_int V1.out.symm V2.out.symm, hS.2.2.2.2.2.2.2.2⟩
end Go.Proofs.Ytkibjbbhiclkmaa
