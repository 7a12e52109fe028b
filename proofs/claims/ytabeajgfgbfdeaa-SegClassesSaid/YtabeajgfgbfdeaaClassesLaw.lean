/- The walk of SegClasses. -/
import Derived.Test.YtabeajgfgbfdeaaRefClass
namespace Go.Proofs.Ytabeajgfgbfdeaa
open Go.RowKit

theorem rall4 (W : World) (b : Nat) (ax ay bx b_y cx cy px py : Int) (hb : b < W.heap.size)
    (h0 : W.cell? ⟨b, 0, none⟩ = some (.int .i64 ax)) (h1 : W.cell? ⟨b, 1, none⟩ = some (.int .i64 ay)) (h2 : W.cell? ⟨b, 2, none⟩ = some (.int .i64 bx))
    (h3 : W.cell? ⟨b, 3, none⟩ = some (.int .i64 b_y)) (h4 : W.cell? ⟨b, 4, none⟩ = some (.int .i64 cx)) (h5 : W.cell? ⟨b, 5, none⟩ = some (.int .i64 cy))
    (h6 : W.cell? ⟨b, 6, none⟩ = some (.int .i64 px)) (h7 : W.cell? ⟨b, 7, none⟩ = some (.int .i64 py)) :
    Calls Try.prog 9 #[.slice (some ⟨b, 0, none⟩) 4 4] W fun e w' => e = .returned (.bool (ok4 ax ay bx b_y cx cy px py)) ∧ Below W.heap.size W w' := by
  rw [← pall4]
  refine all_any b 0 4 4 _ _ W (by omega) hb ?_ ?_
  · intro i hi
    match i, hi with
    | 0, _ => exact h0
    | 1, _ => exact h2
    | 2, _ => exact h4
    | 3, _ => exact h6
  · intro i hi
    match i, hi with
    | 0, _ => exact h1
    | 1, _ => exact h3
    | 2, _ => exact h5
    | 3, _ => exact h7

set_option maxHeartbeats 400000 in
theorem word_0 (w : World) : Calls Try.prog 13 #[.int .i64 0] w fun e w' => e = .returned (.string ⟨#[97, 112, 97, 114, 116]⟩) ∧ w = w' := by
  go_enter Try.func13, Try.ntmps13
  go_wp2
  go_ret
  exact ⟨rfl, rfl⟩
set_option maxHeartbeats 400000 in
theorem word_1 (w : World) : Calls Try.prog 13 #[.int .i64 1] w fun e w' => e = .returned (.string ⟨#[116, 111, 117, 99, 104]⟩) ∧ w = w' := by
  go_enter Try.func13, Try.ntmps13
  go_wp2
  go_ret
  exact ⟨rfl, rfl⟩
set_option maxHeartbeats 400000 in
theorem word_2 (w : World) : Calls Try.prog 13 #[.int .i64 2] w fun e w' => e = .returned (.string ⟨#[116, 101, 101]⟩) ∧ w = w' := by
  go_enter Try.func13, Try.ntmps13
  go_wp2
  go_ret
  exact ⟨rfl, rfl⟩
set_option maxHeartbeats 400000 in
theorem word_3 (w : World) : Calls Try.prog 13 #[.int .i64 3] w fun e w' => e = .returned (.string ⟨#[99, 114, 111, 115, 115]⟩) ∧ w = w' := by
  go_enter Try.func13, Try.ntmps13
  go_wp2
  go_ret
  exact ⟨rfl, rfl⟩
set_option maxHeartbeats 400000 in
theorem word_4 (w : World) : Calls Try.prog 13 #[.int .i64 4] w fun e w' => e = .returned (.string ⟨#[111, 118, 101, 114, 108, 97, 112]⟩) ∧ w = w' := by
  go_enter Try.func13, Try.ntmps13
  go_wp2
  go_ret
  exact ⟨rfl, rfl⟩
set_option maxHeartbeats 400000 in
theorem word_5 (w : World) : Calls Try.prog 13 #[.int .i64 5] w fun e w' => e = .returned (.string ⟨#[115, 97, 109, 101]⟩) ∧ w = w' := by
  go_enter Try.func13, Try.ntmps13
  go_wp2
  go_ret
  exact ⟨rfl, rfl⟩
set_option maxHeartbeats 400000 in
theorem word_no (n : Int) (w : World) (h : n < 0 ∨ 5 < n) : Calls Try.prog 13 #[.int .i64 n] w fun e w' => e = .returned (.string ⟨#[]⟩) ∧ w = w' := by
  have h0 : (n == 0) = false := beq_eq_false_iff_ne.2 (by omega)
  have h1 : (n == 1) = false := beq_eq_false_iff_ne.2 (by omega)
  have h2 : (n == 2) = false := beq_eq_false_iff_ne.2 (by omega)
  have h3 : (n == 3) = false := beq_eq_false_iff_ne.2 (by omega)
  have h4 : (n == 4) = false := beq_eq_false_iff_ne.2 (by omega)
  have h5 : (n == 5) = false := beq_eq_false_iff_ne.2 (by omega)
  clear h
  go_enter Try.func13, Try.ntmps13
  go_wp2
  go_ret
  exact ⟨rfl, rfl⟩

set_option maxRecDepth 100000 in
set_option maxHeartbeats 4000000 in
theorem classes_walk (ax ay bx b_y cx cy dx dy cls : Int) (w : World) :
    Calls Try.prog 3 #[.agg #[.int .i64 ax, .int .i64 ay], .agg #[.int .i64 bx, .int .i64 b_y], .agg #[.int .i64 cx, .int .i64 cy], .agg #[.int .i64 dx, .int .i64 dy], .int .i64 cls] w
      fun e w' => e = .returned (.bool true) ∧ Below w.heap.size w w' := by
  have q1 := eq_pt ax ay bx b_y
  have q2 := eq_pt cx cy dx dy
  have Q1 := Lib.hid q1
  have Q2 := Lib.hid q2
  clear q1 q2
  have HI := Lib.hid (init8 w 23 ax ay bx b_y cx cy dx dy)
  go_enter Try.func3, Try.ntmps3
  go_wp2_with fail
  refine (class_any _ _ _ _ _ _ _ _ _).mono ?_
  rintro e w1 ⟨rfl, hb1⟩
  have hS := keep8 hb1 HI.out
  clear hb1
  go_wp2_with fail
  go_region_held3 (fun w' => w'.cell? ⟨w.heap.size, 0, none⟩ = some (.int .i64 ax) ∧ w'.cell? ⟨w.heap.size, 1, none⟩ = some (.int .i64 ay) ∧ w'.cell? ⟨w.heap.size + 1, 0, none⟩ = some (.int .i64 bx) ∧ w'.cell? ⟨w.heap.size + 1, 1, none⟩ = some (.int .i64 b_y) ∧ w'.cell? ⟨w.heap.size + 1 + 1, 0, none⟩ = some (.int .i64 cx) ∧ w'.cell? ⟨w.heap.size + 1 + 1, 1, none⟩ = some (.int .i64 cy) ∧ w'.cell? ⟨w.heap.size + 1 + 1 + 1, 0, none⟩ = some (.int .i64 dx) ∧ w'.cell? ⟨w.heap.size + 1 + 1 + 1, 1, none⟩ = some (.int .i64 dy) ∧ Below w.heap.size w w') (first | exact hS5 | exact ⟨hS.1, hS.2.1, hS.2.2.1, hS.2.2.2.1, hS.2.2.2.2.1, hS.2.2.2.2.2.1, hS.2.2.2.2.2.2.1, hS.2.2.2.2.2.2.2.1, hS.2.2.2.2.2.2.2.2.drew⟩ | assumption | exact keep8 (b1 _ _) hS5) (first | (go_at_call 10; refine (of_any _ _ _).mono ?_; rintro e w5 ⟨rfl, hb5⟩; have hS5 := keep8 hb5 (by assumption)) | (go_at_call 9; refine (rall4 _ _ ax ay bx b_y cx cy dx dy (by simp) (by go_simp) (by go_simp) (by go_simp) (by go_simp) (by go_simp) (by go_simp) (by go_simp) (by go_simp)).mono ?_; rintro e w5 ⟨rfl, hb5⟩; have hS5 := keep8 hb5 (by assumption)))
  go_upto_if 34 with fail
  go_cut [13, 14] (fun s13 s14 wx => s13 = .int .i64 (clsV ax ay bx b_y cx cy dx dy) ∧ s14 = .int .i64 (errV ax ay bx b_y cx cy dx dy) ∧ Below w.heap.size w wx)
  case first =>
    cases h : ok4 ax ay bx b_y cx cy dx dy
    · obtain ⟨v1, v2⟩ := clsV_no h
      have V1 := Lib.hid v1; have V2 := Lib.hid v2
      have HB5 := Lib.hid hS5.2.2.2.2.2.2.2.2
      clear h v1 v2 hS
      go_wp2_with fail
      go_meet
      exact ⟨by rw [V1.out], by rw [V2.out], HB5.out⟩
    · have HO := Lib.hid h
      cases h2 : (eqB ax ay bx b_y || eqB cx cy dx dy)
      · have v2 := (clsV_yes h h2).2
        have v1 : clsV ax ay bx b_y cx cy dx dy = clsI ax ay bx b_y cx cy dx dy := by unfold clsV; rw [h, h2]; rfl
        have V1 := Lib.hid v1; have V2 := Lib.hid v2
        rw [Bool.or_eq_false_iff] at h2
        have q1 := Q1.out
        have q2 := Q2.out
        rw [h2.1] at q1
        rw [h2.2] at q2
        clear h v1 v2 hS h2
        have hS := hS5
        clear hS5
        go_wp2_with fail
        go_region_held3 (fun w' => w'.cell? ⟨w.heap.size, 0, none⟩ = some (.int .i64 ax) ∧ w'.cell? ⟨w.heap.size, 1, none⟩ = some (.int .i64 ay) ∧ w'.cell? ⟨w.heap.size + 1, 0, none⟩ = some (.int .i64 bx) ∧ w'.cell? ⟨w.heap.size + 1, 1, none⟩ = some (.int .i64 b_y) ∧ w'.cell? ⟨w.heap.size + 1 + 1, 0, none⟩ = some (.int .i64 cx) ∧ w'.cell? ⟨w.heap.size + 1 + 1, 1, none⟩ = some (.int .i64 cy) ∧ w'.cell? ⟨w.heap.size + 1 + 1 + 1, 0, none⟩ = some (.int .i64 dx) ∧ w'.cell? ⟨w.heap.size + 1 + 1 + 1, 1, none⟩ = some (.int .i64 dy) ∧ Below w.heap.size w w') (first | exact hS5 | exact ⟨hS.1, hS.2.1, hS.2.2.1, hS.2.2.2.1, hS.2.2.2.2.1, hS.2.2.2.2.2.1, hS.2.2.2.2.2.2.1, hS.2.2.2.2.2.2.2.1, hS.2.2.2.2.2.2.2.2.drew⟩ | assumption | exact keep8 (b1 _ _) hS5) (first | (go_at_call 10; refine (of_any _ _ _).mono ?_; rintro e w5 ⟨rfl, hb5⟩; have hS5 := keep8 hb5 (by assumption)) | (go_at_call 11; refine (rclass_any ax ay bx b_y cx cy dx dy _ HO.out).mono ?_; rintro e w5 ⟨rfl, hb5⟩; have hS5 := keep8 hb5 (by assumption)))
        have HB5 := Lib.hid hS5.2.2.2.2.2.2.2.2
        go_wp2_with fail
        go_meet
        exact ⟨by rw [V1.out], by rw [V2.out], HB5.out⟩
      · obtain ⟨v1, v2⟩ := clsV_arg h h2
        have V1 := Lib.hid v1; have V2 := Lib.hid v2
        have HB5 := Lib.hid hS5.2.2.2.2.2.2.2.2
        have q1 := Q1.out
        have q2 := Q2.out
        generalize eqB ax ay bx b_y = e1 at q1 h2
        generalize eqB cx cy dx dy = e2 at q2 h2
        clear h v1 v2 hS
        cases e1
        · simp at h2
          subst h2
          go_wp2_with fail
          go_meet
          exact ⟨by rw [V1.out], by rw [V2.out], HB5.out⟩
        · go_wp2_with fail
          go_meet
          exact ⟨by rw [V1.out], by rw [V2.out], HB5.out⟩
  case rest =>
    obtain ⟨rfl, rfl, hB⟩ := hcut
    have HB := Lib.hid hB
    clear hB hS HI Q1 Q2 hS5
    generalize clsV ax ay bx b_y cx cy dx dy = n
    generalize errV ax ay bx b_y cx cy dx dy = er
    by_cases h0 : cls = 0
    · subst h0
      go_wp2_with fail
      refine (known2_yes _).mono ?_
      rintro e w9 ⟨rfl, hk⟩
      have HF : Hid (Below w.heap.size w w9) := Lib.hid ((HB.out.trans ((b1 wc _).mono HB.out.size)).trans (hk.mono (by have := HB.out.size; simp; omega)))
      clear hk
      go_wp2_with (go_at_call 13; refine (word_0 _).mono ?_; rintro e w10 ⟨rfl, rfl⟩)
      go_ret
      exact ⟨rfl, HF.out⟩
    ·
      by_cases h1 : cls = 1
      · subst h1
        go_wp2_with fail
        refine (known2_yes _).mono ?_
        rintro e w9 ⟨rfl, hk⟩
        have HF : Hid (Below w.heap.size w w9) := Lib.hid ((HB.out.trans ((b1 wc _).mono HB.out.size)).trans (hk.mono (by have := HB.out.size; simp; omega)))
        clear hk
        go_wp2_with (go_at_call 13; refine (word_1 _).mono ?_; rintro e w10 ⟨rfl, rfl⟩)
        go_ret
        exact ⟨rfl, HF.out⟩
      ·
        by_cases h2 : cls = 2
        · subst h2
          go_wp2_with fail
          refine (known2_yes _).mono ?_
          rintro e w9 ⟨rfl, hk⟩
          have HF : Hid (Below w.heap.size w w9) := Lib.hid ((HB.out.trans ((b1 wc _).mono HB.out.size)).trans (hk.mono (by have := HB.out.size; simp; omega)))
          clear hk
          go_wp2_with (go_at_call 13; refine (word_2 _).mono ?_; rintro e w10 ⟨rfl, rfl⟩)
          go_ret
          exact ⟨rfl, HF.out⟩
        ·
          by_cases h3 : cls = 3
          · subst h3
            go_wp2_with fail
            refine (known2_yes _).mono ?_
            rintro e w9 ⟨rfl, hk⟩
            have HF : Hid (Below w.heap.size w w9) := Lib.hid ((HB.out.trans ((b1 wc _).mono HB.out.size)).trans (hk.mono (by have := HB.out.size; simp; omega)))
            clear hk
            go_wp2_with (go_at_call 13; refine (word_3 _).mono ?_; rintro e w10 ⟨rfl, rfl⟩)
            go_ret
            exact ⟨rfl, HF.out⟩
          ·
            by_cases h4 : cls = 4
            · subst h4
              go_wp2_with fail
              refine (known2_yes _).mono ?_
              rintro e w9 ⟨rfl, hk⟩
              have HF : Hid (Below w.heap.size w w9) := Lib.hid ((HB.out.trans ((b1 wc _).mono HB.out.size)).trans (hk.mono (by have := HB.out.size; simp; omega)))
              clear hk
              go_wp2_with (go_at_call 13; refine (word_4 _).mono ?_; rintro e w10 ⟨rfl, rfl⟩)
              go_ret
              exact ⟨rfl, HF.out⟩
            ·
              by_cases h5 : cls = 5
              · subst h5
                go_wp2_with fail
                refine (known2_yes _).mono ?_
                rintro e w9 ⟨rfl, hk⟩
                have HF : Hid (Below w.heap.size w w9) := Lib.hid ((HB.out.trans ((b1 wc _).mono HB.out.size)).trans (hk.mono (by have := HB.out.size; simp; omega)))
                clear hk
                go_wp2_with (go_at_call 13; refine (word_5 _).mono ?_; rintro e w10 ⟨rfl, rfl⟩)
                go_ret
                exact ⟨rfl, HF.out⟩
              ·
                by_cases hlo : cls < 0
                ·
                  go_wp2_with fail
                  refine (known2_yes _).mono ?_
                  rintro e w9 ⟨rfl, hk⟩
                  have HF : Hid (Below w.heap.size w w9) := Lib.hid ((HB.out.trans ((Below.refl _ _).mono HB.out.size)).trans (hk.mono HB.out.size))
                  clear hk
                  go_wp2_with (go_at_call 13; refine (word_no cls _ (.inl hlo)).mono ?_; rintro e w10 ⟨rfl, rfl⟩)
                  go_ret
                  exact ⟨rfl, HF.out⟩
                · have hhi : 5 < cls := by omega
                  go_wp2_with fail
                  refine (known2_yes _).mono ?_
                  rintro e w9 ⟨rfl, hk⟩
                  have HF : Hid (Below w.heap.size w w9) := Lib.hid ((HB.out.trans ((Below.refl _ _).mono HB.out.size)).trans (hk.mono HB.out.size))
                  clear hk
                  go_wp2_with (go_at_call 13; refine (word_no cls _ (.inr hhi)).mono ?_; rintro e w10 ⟨rfl, rfl⟩)
                  go_ret
                  exact ⟨rfl, HF.out⟩
end Go.Proofs.Ytabeajgfgbfdeaa
