/- Walks of AtX, AtY. -/
import Derived.Test.YtmhmccicnebhaaaSegWalk
import Derived.Test.YtmhmccicnebhaaaCutGeo
namespace Go.Proofs.Ytmhmccicnebhaaa
open Go.RowKit

theorem keep4 {w W w1 : World} {a0 a1 a2 a3 : Addr} {v0 v1 v2 v3 : Value} (hb : Below W.heap.size W w1) (h : W.cell? a0 = some v0 ∧ W.cell? a1 = some v1 ∧ W.cell? a2 = some v2 ∧ W.cell? a3 = some v3 ∧ Below w.heap.size w W) :
    w1.cell? a0 = some v0 ∧ w1.cell? a1 = some v1 ∧ w1.cell? a2 = some v2 ∧ w1.cell? a3 = some v3 ∧ Below w.heap.size w w1 := by
  obtain ⟨h0, h1, h2, h3, hB⟩ := h
  exact ⟨cell_later hb h0, cell_later hb h1, cell_later hb h2, cell_later hb h3, hB.trans (hb.mono hB.size)⟩
def ok2 (ax ay bx b_y : Int) : Bool := okp ax ay && okp bx b_y
theorem pall2 (ax ay bx b_y : Int) : pall 2 (fun i => [ax, bx].getD i 0) (fun i => [ay, b_y].getD i 0) = ok2 ax ay bx b_y := by
  simp [pall_succ, pall_zero, ok2, okp]
theorem right2 (W : World) (b : Nat) (ax ay bx b_y : Int) (hb : b < W.heap.size)
    (h0 : W.cell? ⟨b, 0, none⟩ = some (.int .i64 ax)) (h1 : W.cell? ⟨b, 1, none⟩ = some (.int .i64 ay)) (h2 : W.cell? ⟨b, 2, none⟩ = some (.int .i64 bx)) (h3 : W.cell? ⟨b, 3, none⟩ = some (.int .i64 b_y)) :
    Calls Try.prog 52 #[.slice (some ⟨b, 0, none⟩) 2 2] W fun e w' => e = .returned (.bool (ok2 ax ay bx b_y)) ∧ Below W.heap.size W w' := by
  rw [← pall2]
  refine right_any b 0 2 2 _ _ W (by omega) hb ?_ ?_
  · intro i hi
    match i, hi with
    | 0, _ => exact h0
    | 1, _ => exact h2
  · intro i hi
    match i, hi with
    | 0, _ => exact h1
    | 1, _ => exact h3

/-- What AtX answers. -/
def atN (ax ay bx b_y c : Int) : Int := if ok2 ax ay bx b_y && cutB ax bx c then cutI ax ay bx b_y c else 0
def atB (ax ay bx b_y c : Int) : Bool := ok2 ax ay bx b_y && cutB ax bx c
theorem at_none {ax ay bx b_y c : Int} (h : atB ax ay bx b_y c = false) : atN ax ay bx b_y c = 0 := by unfold atN atB at *; rw [h]; rfl
theorem at_some {ax ay bx b_y c : Int} (h : atB ax ay bx b_y c = true) : atN ax ay bx b_y c = cutI ax ay bx b_y c := by unfold atN atB at *; rw [h]; rfl
theorem ok2_swap (ax ay bx b_y : Int) : ok2 bx b_y ax ay = ok2 ax ay bx b_y := by unfold ok2; rw [Bool.and_comm]
theorem ok2_in {ax ay bx b_y : Int} (h : ok2 ax ay bx b_y = true) : (-16777216 ≤ ax ∧ ax ≤ 16777216) ∧ (-16777216 ≤ ay ∧ ay ≤ 16777216) ∧ (-16777216 ≤ bx ∧ bx ≤ 16777216) ∧ (-16777216 ≤ b_y ∧ b_y ≤ 16777216) := by
  unfold ok2 at h; rw [Bool.and_eq_true] at h
  have := okp_yes h.1; have := okp_yes h.2; omega
theorem cutI_in {x y u v c : Int} (hok : ok2 x y u v = true) (hc : cutB x u c = true) : -16777216 ≤ cutI x y u v c ∧ cutI x y u v c ≤ 16777216 := by
  obtain ⟨h1, h2, h3, h4⟩ := ok2_in hok
  have : xCut (x, y) (u, v) c = some (c, cutI x y u v c) := by unfold xCut; rw [show cutB (x, y).1 (u, v).1 c = true from hc]; rfl
  obtain ⟨_, _, hw, _⟩ := xCut_way this
  have := (way_in hw).2
  simp only [] at this
  omega

theorem at_swapB (ax ay bx b_y c : Int) : atB ax ay bx b_y c = atB bx b_y ax ay c := by
  unfold atB
  rw [ok2_swap]
  congr 1
  rw [Bool.eq_iff_iff, cutB_iff, cutB_iff]; omega
theorem at_swapN {ax ay bx b_y c : Int} (h : ax ≠ bx) : atN ax ay bx b_y c = atN bx b_y ax ay c := by
  have := at_swapB ax ay bx b_y c
  cases hB : atB ax ay bx b_y c
  · rw [at_none hB, at_none (this ▸ hB)]
  · rw [at_some hB, at_some (this ▸ hB), cutI_flip h]

set_option maxHeartbeats 1000000 in
theorem atx_up (ax ay bx b_y c : Int) (w : World) (hs : ¬ bx < ax) :
    Calls Try.prog 21 #[.agg #[.int .i64 ax, .int .i64 ay], .agg #[.int .i64 bx, .int .i64 b_y], .int .i64 c] w
      fun e w' => e = .returned (.tuple #[.int .i64 (atN ax ay bx b_y c), .bool (atB ax ay bx b_y c)]) ∧ Below w.heap.size w w' := by
  have hI : (fun W : World => W.cell? ⟨w.heap.size, 0, none⟩ = some (.int .i64 ax) ∧ W.cell? ⟨w.heap.size, 1, none⟩ = some (.int .i64 ay) ∧ W.cell? ⟨w.heap.size + 1, 0, none⟩ = some (.int .i64 bx) ∧ W.cell? ⟨w.heap.size + 1, 1, none⟩ = some (.int .i64 b_y) ∧ Below w.heap.size w W)
      (((w.alloc (.cells #[.int .i64 ax, .int .i64 ay] 23)).alloc (.cells #[.int .i64 bx, .int .i64 b_y] 23)).alloc (.cells #[.int .i64 ax, .int .i64 ay, .int .i64 bx, .int .i64 b_y] 23)) :=
    ⟨by go_simp, by go_simp, by go_simp, by go_simp, b3 _ _ _ _⟩
  have HI := Lib.hid hI
  clear hI
  cases h : ok2 ax ay bx b_y
  · have H := Lib.hid h
    have hB : atB ax ay bx b_y c = false := by unfold atB; rw [h]; rfl
    rw [at_none hB, hB]
    clear h hB
    go_enter Try.func21, Try.ntmps21
    go_wp2_with fail
    refine (right2 _ _ ax ay bx b_y (by simp) (by go_simp) (by go_simp) (by go_simp) (by go_simp)).mono ?_
    rintro e w1 ⟨rfl, hb1⟩
    rw [H.out]
    have hS := keep4 hb1 HI.out
    go_wp2
    go_ret2
    exact ⟨rfl, hS.2.2.2.2⟩
  · have H := Lib.hid h
    obtain ⟨i1, i2, i3, i4⟩ := ok2_in h
    by_cases h1 : c ≤ ax
    · have hB : atB ax ay bx b_y c = false := by
        unfold atB; rw [h, Bool.true_and, ← Bool.not_eq_true, cutB_iff]; omega
      rw [at_none hB, hB]
      clear h hB
      go_enter Try.func21, Try.ntmps21
      go_wp2_with fail
      refine (right2 _ _ ax ay bx b_y (by simp) (by go_simp) (by go_simp) (by go_simp) (by go_simp)).mono ?_
      rintro e w1 ⟨rfl, hb1⟩
      rw [H.out]
      have hS := keep4 hb1 HI.out
      go_wp2
      go_ret2
      exact ⟨rfl, hS.2.2.2.2⟩
    · by_cases h2 : bx ≤ c
      · have hB : atB ax ay bx b_y c = false := by
          unfold atB; rw [h, Bool.true_and, ← Bool.not_eq_true, cutB_iff]; omega
        rw [at_none hB, hB]
        clear h hB
        go_enter Try.func21, Try.ntmps21
        go_wp2_with fail
        refine (right2 _ _ ax ay bx b_y (by simp) (by go_simp) (by go_simp) (by go_simp) (by go_simp)).mono ?_
        rintro e w1 ⟨rfl, hb1⟩
        rw [H.out]
        have hS := keep4 hb1 HI.out
        go_wp2
        go_ret2
        exact ⟨rfl, hS.2.2.2.2⟩
      · have hc : cutB ax bx c = true := by rw [cutB_iff]; omega
        have hB : atB ax ay bx b_y c = true := by unfold atB; rw [h, hc]; rfl
        have hin := cutI_in h hc
        rw [at_some hB, hB, cutI_up (by omega)]
        rw [cutI_up (by omega)] at hin
        have m1 := mul_in (b_y - ay) (c - ax) 33554432 33554432 (by omega) (by omega)
        clear h hB hc
        go_enter Try.func21, Try.ntmps21
        go_wp2_with fail
        refine (right2 _ _ ax ay bx b_y (by simp) (by go_simp) (by go_simp) (by go_simp) (by go_simp)).mono ?_
        rintro e w1 ⟨rfl, hb1⟩
        rw [H.out]
        have hS := keep4 hb1 HI.out
        clear hb1
        go_wp2_with (go_at_call 58; refine (round_yes _ _ _ (by omega) (by omega) (by omega) (by omega)).mono ?_; rintro e w' ⟨rfl, rfl⟩)
        go_ret2
        exact ⟨rfl, hS.2.2.2.2⟩

set_option maxHeartbeats 1000000 in
theorem atx_dn (ax ay bx b_y c : Int) (w : World) (hs : bx < ax) :
    Calls Try.prog 21 #[.agg #[.int .i64 ax, .int .i64 ay], .agg #[.int .i64 bx, .int .i64 b_y], .int .i64 c] w
      fun e w' => e = .returned (.tuple #[.int .i64 (atN ax ay bx b_y c), .bool (atB ax ay bx b_y c)]) ∧ Below w.heap.size w w' := by
  rw [show atN ax ay bx b_y c = atN bx b_y ax ay c from at_swapN (by omega), show atB ax ay bx b_y c = atB bx b_y ax ay c from at_swapB _ _ _ _ _]
  have hI : (fun W : World => W.cell? ⟨w.heap.size, 0, none⟩ = some (.int .i64 bx) ∧ W.cell? ⟨w.heap.size, 1, none⟩ = some (.int .i64 b_y) ∧ W.cell? ⟨w.heap.size + 1, 0, none⟩ = some (.int .i64 ax) ∧ W.cell? ⟨w.heap.size + 1, 1, none⟩ = some (.int .i64 ay) ∧ Below w.heap.size w W)
      (((w.alloc (.cells #[.int .i64 bx, .int .i64 b_y] 23)).alloc (.cells #[.int .i64 ax, .int .i64 ay] 23)).alloc (.cells #[.int .i64 bx, .int .i64 b_y, .int .i64 ax, .int .i64 ay] 23)) :=
    ⟨by go_simp, by go_simp, by go_simp, by go_simp, b3 _ _ _ _⟩
  have HI := Lib.hid hI
  clear hI
  cases h : ok2 bx b_y ax ay
  · have H := Lib.hid h
    have hB : atB bx b_y ax ay c = false := by unfold atB; rw [h]; rfl
    rw [at_none hB, hB]
    clear h hB
    go_enter Try.func21, Try.ntmps21
    go_wp2_with fail
    refine (right2 _ _ bx b_y ax ay (by simp) (by go_simp) (by go_simp) (by go_simp) (by go_simp)).mono ?_
    rintro e w1 ⟨rfl, hb1⟩
    rw [H.out]
    have hS := keep4 hb1 HI.out
    go_wp2
    go_ret2
    exact ⟨rfl, hS.2.2.2.2⟩
  · have H := Lib.hid h
    obtain ⟨i1, i2, i3, i4⟩ := ok2_in h
    by_cases h1 : c ≤ bx
    · have hB : atB bx b_y ax ay c = false := by
        unfold atB; rw [h, Bool.true_and, ← Bool.not_eq_true, cutB_iff]; omega
      rw [at_none hB, hB]
      clear h hB
      go_enter Try.func21, Try.ntmps21
      go_wp2_with fail
      refine (right2 _ _ bx b_y ax ay (by simp) (by go_simp) (by go_simp) (by go_simp) (by go_simp)).mono ?_
      rintro e w1 ⟨rfl, hb1⟩
      rw [H.out]
      have hS := keep4 hb1 HI.out
      go_wp2
      go_ret2
      exact ⟨rfl, hS.2.2.2.2⟩
    · by_cases h2 : ax ≤ c
      · have hB : atB bx b_y ax ay c = false := by
          unfold atB; rw [h, Bool.true_and, ← Bool.not_eq_true, cutB_iff]; omega
        rw [at_none hB, hB]
        clear h hB
        go_enter Try.func21, Try.ntmps21
        go_wp2_with fail
        refine (right2 _ _ bx b_y ax ay (by simp) (by go_simp) (by go_simp) (by go_simp) (by go_simp)).mono ?_
        rintro e w1 ⟨rfl, hb1⟩
        rw [H.out]
        have hS := keep4 hb1 HI.out
        go_wp2
        go_ret2
        exact ⟨rfl, hS.2.2.2.2⟩
      · have hc : cutB bx ax c = true := by rw [cutB_iff]; omega
        have hB : atB bx b_y ax ay c = true := by unfold atB; rw [h, hc]; rfl
        have hin := cutI_in h hc
        rw [at_some hB, hB, cutI_up (by omega)]
        rw [cutI_up (by omega)] at hin
        have m1 := mul_in (ay - b_y) (c - bx) 33554432 33554432 (by omega) (by omega)
        clear h hB hc
        go_enter Try.func21, Try.ntmps21
        go_wp2_with fail
        refine (right2 _ _ bx b_y ax ay (by simp) (by go_simp) (by go_simp) (by go_simp) (by go_simp)).mono ?_
        rintro e w1 ⟨rfl, hb1⟩
        rw [H.out]
        have hS := keep4 hb1 HI.out
        clear hb1
        go_wp2_with (go_at_call 58; refine (round_yes _ _ _ (by omega) (by omega) (by omega) (by omega)).mono ?_; rintro e w' ⟨rfl, rfl⟩)
        go_ret2
        exact ⟨rfl, hS.2.2.2.2⟩
theorem atx_any (ax ay bx b_y c : Int) (w : World) :
    Calls Try.prog 21 #[.agg #[.int .i64 ax, .int .i64 ay], .agg #[.int .i64 bx, .int .i64 b_y], .int .i64 c] w
      fun e w' => e = .returned (.tuple #[.int .i64 (atN ax ay bx b_y c), .bool (atB ax ay bx b_y c)]) ∧ Below w.heap.size w w' := by
  by_cases h : bx < ax
  · exact atx_dn ax ay bx b_y c w h
  · exact atx_up ax ay bx b_y c w h

set_option maxHeartbeats 400000 in
theorem flipped_any (ax ay : Int) (w : World) : Calls Try.prog 59 #[.agg #[.int .i64 ax, .int .i64 ay]] w fun e w' => e = .returned (.agg #[.int .i64 ay, .int .i64 ax]) ∧ Below w.heap.size w w' := by
  go_enter Try.func59, Try.ntmps59
  go_wp2
  exact bodyPost_ret (v := .agg #[.int .i64 ay, .int .i64 ax]) (by simp [results, Try.results59, go_sem]) rfl ⟨rfl, b2 _ _ _⟩

set_option maxHeartbeats 1000000 in
theorem aty_any (ax ay bx b_y c : Int) (w : World) :
    Calls Try.prog 22 #[.agg #[.int .i64 ax, .int .i64 ay], .agg #[.int .i64 bx, .int .i64 b_y], .int .i64 c] w
      fun e w' => e = .returned (.tuple #[.int .i64 (atN ay ax b_y bx c), .bool (atB ay ax b_y bx c)]) ∧ Below w.heap.size w w' := by
  go_enter Try.func22, Try.ntmps22
  go_wp2_with fail
  go_region_held3 (fun w' => w'.cell? ⟨w.heap.size, 0, none⟩ = some (.int .i64 ax) ∧ w'.cell? ⟨w.heap.size, 1, none⟩ = some (.int .i64 ay) ∧ w'.cell? ⟨w.heap.size + 1, 0, none⟩ = some (.int .i64 bx) ∧ w'.cell? ⟨w.heap.size + 1, 1, none⟩ = some (.int .i64 b_y) ∧ Below w.heap.size w w') (first | exact hS2 | exact ⟨by go_simp, by go_simp, by go_simp, by go_simp, (b2 _ _ _).drew⟩) (first | (go_at_call 59; refine (flipped_any _ _ _).mono ?_; rintro e w2 ⟨rfl, hb2⟩; have hS2 := keep4 hb2 (by assumption)) | (go_at_call 21; refine (atx_any _ _ _ _ _ _).mono ?_; rintro e w2 ⟨rfl, hb2⟩; have hS2 := keep4 hb2 (by assumption)))
  all_goals
    go_wp2
    go_ret2
    exact ⟨rfl, hS2.2.2.2.2⟩
end Go.Proofs.Ytmhmccicnebhaaa
