/- Plain facts for ExactTurns: what two points changed for one another, or going round, make of areas and triangles. -/
import Derived.Test.YtmhmccicnebhaaaRin
namespace Go.Proofs.Ytmhmccicnebhaaa
open Go.RowKit

theorem ok3_swap (ax ay bx b_y cx cy : Int) : ok3 bx b_y ax ay cx cy = ok3 ax ay bx b_y cx cy := by
  unfold ok3; rw [Bool.and_comm (okp bx b_y)]
theorem ok3_turn (ax ay bx b_y cx cy : Int) : ok3 bx b_y cx cy ax ay = ok3 ax ay bx b_y cx cy := by
  unfold ok3; cases okp ax ay <;> cases okp bx b_y <;> cases okp cx cy <;> rfl
theorem crV_swap (ax ay bx b_y cx cy : Int) : crV bx b_y ax ay cx cy = - crV ax ay bx b_y cx cy := by
  unfold crV
  rw [ok3_swap, crI_flip]
  split <;> rfl
theorem crV_turn (ax ay bx b_y cx cy : Int) : crV bx b_y cx cy ax ay = crV ax ay bx b_y cx cy := by
  unfold crV
  rw [ok3_turn, cyc]
theorem crV_flat (ax ay bx b_y : Int) : crV ax ay bx b_y bx b_y = 0 := by
  unfold crV
  split
  · unfold crI; grind
  · rfl
theorem crV_in (ax ay bx b_y cx cy : Int) : -2251799813685248 ≤ crV ax ay bx b_y cx cy ∧ crV ax ay bx b_y cx cy ≤ 2251799813685248 := by
  unfold crV
  split
  · rename_i h
    obtain ⟨q1, q2, q3, q4⟩ := crI_parts _ _ _ _ _ _ h
    have m1 := mul_in _ _ 33554432 33554432 q1 q2
    have m2 := mul_in _ _ 33554432 33554432 q3 q4
    unfold crI
    omega
  · omega
theorem onV_swap (ax ay bx b_y px py : Int) : onV bx b_y ax ay px py = onV ax ay bx b_y px py := by
  unfold onV
  rw [ok3_swap]
  congr 1
  rw [Bool.eq_iff_iff, onI_iff, onI_iff]
  exact ⟨on_flip, on_flip⟩
theorem ok4_turn (ax ay bx b_y cx cy px py : Int) : ok4 bx b_y cx cy ax ay px py = ok4 ax ay bx b_y cx cy px py := by
  unfold ok4; cases okp ax ay <;> cases okp bx b_y <;> cases okp cx cy <;> rfl
theorem ok4_swap (ax ay bx b_y cx cy px py : Int) : ok4 bx b_y ax ay cx cy px py = ok4 ax ay bx b_y cx cy px py := by
  unfold ok4; rw [Bool.and_comm (okp bx b_y)]
theorem inV_turn (ax ay bx b_y cx cy px py : Int) : inV bx b_y cx cy ax ay px py = inV ax ay bx b_y cx cy px py := by
  unfold inV
  rw [ok4_turn]
  congr 1
  rw [Bool.eq_iff_iff, inB_iff, inB_iff, in_rin, in_rin]
  unfold rinP allS
  constructor
  · rintro (h | h | h | h)
    · exact .inr (.inl h)
    · exact .inr (.inr (.inl h))
    · exact .inl h
    · exact .inr (.inr (.inr (by omega)))
  · rintro (h | h | h | h)
    · exact .inr (.inr (.inl h))
    · exact .inl h
    · exact .inr (.inl h)
    · exact .inr (.inr (.inr (by omega)))
theorem inV_swap (ax ay bx b_y cx cy px py : Int) : inV bx b_y ax ay cx cy px py = inV ax ay bx b_y cx cy px py := by
  unfold inV
  rw [ok4_swap]
  congr 1
  rw [Bool.eq_iff_iff, inB_iff, inB_iff, in_rin, in_rin]
  unfold rinP allS
  rw [crI_flip ax ay bx b_y px py, crI_flip cx cy ax ay px py, crI_flip bx b_y cx cy px py]
  constructor
  · rintro (h | h | h | h)
    · exact .inl (on_flip h)
    · exact .inr (.inr (.inl (on_flip h)))
    · exact .inr (.inl (on_flip h))
    · exact .inr (.inr (.inr (by omega)))
  · rintro (h | h | h | h)
    · exact .inl (on_flip h)
    · exact .inr (.inr (.inl (on_flip h)))
    · exact .inr (.inl (on_flip h))
    · exact .inr (.inr (.inr (by omega)))
theorem onP_a (ax ay bx b_y : Int) : onP ax ay bx b_y ax ay := ⟨by unfold crI; grind, by unfold betP; omega, by unfold betP; omega⟩
theorem onP_b (ax ay bx b_y : Int) : onP ax ay bx b_y bx b_y := on_flip (onP_a bx b_y ax ay)
theorem onV_b {ax ay bx b_y cx cy : Int} (h : ok3 ax ay bx b_y cx cy = true) : onV ax ay bx b_y bx b_y = true := by
  have h' : ok3 ax ay bx b_y bx b_y = true := by
    simp only [ok3, Bool.and_eq_true] at *
    simp [h]
  unfold onV
  rw [h', (onI_iff _ _ _ _ _ _).2 (onP_b ax ay bx b_y)]
  rfl
theorem onV_aa {ax ay bx b_y cx cy px py : Int} (h : ok3 ax ay bx b_y cx cy = true) (ho : onV ax ay ax ay px py = true) : onV ax ay bx b_y px py = true := by
  unfold onV at ho
  rw [Bool.and_eq_true, onI_iff] at ho
  obtain ⟨hk, _, h1, h2⟩ := ho
  obtain rfl : px = ax := by unfold betP at h1; omega
  obtain rfl : py = ay := by unfold betP at h2; omega
  have h' : ok3 px py bx b_y px py = true := by
    simp only [ok3, Bool.and_eq_true] at *
    simp [h]
  unfold onV
  rw [h', (onI_iff _ _ _ _ _ _).2 (onP_a px py bx b_y)]
  rfl
theorem inV_abc {ax ay bx b_y cx cy px py : Int} (h : ok3 ax ay bx b_y cx cy = true) (hp : rinP ax ay bx b_y cx cy px py) (ho : okp px py = true) : inV ax ay bx b_y cx cy px py = true := by
  have h' : ok4 ax ay bx b_y cx cy px py = true := by
    simp only [ok3, ok4, Bool.and_eq_true] at *
    simp [h, ho]
  unfold inV
  rw [h', (inB_iff _ _ _ _ _ _ _ _).2 ((in_rin _ _ _ _ _ _ _ _).2 hp)]
  rfl
theorem inV_a {ax ay bx b_y cx cy : Int} (h : ok3 ax ay bx b_y cx cy = true) : inV ax ay bx b_y cx cy ax ay = true :=
  inV_abc h (.inl (onP_a _ _ _ _)) (by simp only [ok3, Bool.and_eq_true] at h; exact h.1.1)
theorem inV_b {ax ay bx b_y cx cy : Int} (h : ok3 ax ay bx b_y cx cy = true) : inV ax ay bx b_y cx cy bx b_y = true :=
  inV_abc h (.inl (onP_b _ _ _ _)) (by simp only [ok3, Bool.and_eq_true] at h; exact h.1.2)
theorem inV_c {ax ay bx b_y cx cy : Int} (h : ok3 ax ay bx b_y cx cy = true) : inV ax ay bx b_y cx cy cx cy = true :=
  inV_abc h (.inr (.inl (onP_b _ _ _ _))) (by simp only [ok3, Bool.and_eq_true] at h; exact h.2)
theorem inV_wrong {ax ay bx b_y cx cy : Int} (px py : Int) (h : ok3 ax ay bx b_y cx cy = false) : inV ax ay bx b_y cx cy px py = false := by
  unfold inV ok4
  unfold ok3 at h
  rw [h, Bool.false_and, Bool.false_and]
end Go.Proofs.Ytmhmccicnebhaaa
