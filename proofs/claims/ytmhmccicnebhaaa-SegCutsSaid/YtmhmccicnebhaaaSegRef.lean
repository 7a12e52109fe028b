/- Walks of the document's own for layer 2: At, abs. -/
import Derived.Test.YtmhmccicnebhaaaQuo
import Derived.Test.YtmhmccicnebhaaaArea
import Derived.Test.YtmhmccicnebhaaaCutGeo
namespace Go.Proofs.Ytmhmccicnebhaaa
open Go.RowKit

set_option maxHeartbeats 400000 in
theorem abs_any (n : Int) (w : World) (h1 : -4611686018427387904 ≤ n) (h2 : n ≤ 4611686018427387904) : Calls Try.prog 63 #[.int .i64 n] w fun e w' => e = .returned (.int .i64 (n.natAbs : Int)) ∧ w = w' := by
  by_cases h : n < 0
  all_goals
    go_enter Try.func63, Try.ntmps63
    go_wp2
    go_ret
    exact ⟨ret_int (by omega), rfl⟩

set_option maxHeartbeats 400000 in
theorem at_no (x y u v c : Int) (w : World) (h : ¬ ((x < c ∧ c < u) ∨ (u < c ∧ c < x))) :
    Calls Try.prog 24 #[.int .i64 x, .int .i64 y, .int .i64 u, .int .i64 v, .int .i64 c] w fun e w' => e = .returned (.tuple #[.int .i64 0, .bool false]) ∧ w = w' := by
  by_cases h1 : x < c <;> by_cases h2 : c < u <;> by_cases h3 : u < c <;> by_cases h4 : c < x
  all_goals first
    | (exfalso; omega)
    | (clear h; go_enter Try.func24, Try.ntmps24; go_wp2; go_ret2; exact ⟨rfl, rfl⟩)

set_option maxHeartbeats 800000 in
theorem at_yes (x y u v c : Int) (w : World) (h : (x < c ∧ c < u) ∨ (u < c ∧ c < x)) (h1 : okp x y = true) (h2 : okp u v = true) :
    Calls Try.prog 24 #[.int .i64 x, .int .i64 y, .int .i64 u, .int .i64 v, .int .i64 c] w fun e w' => e = .returned (.tuple #[.int .i64 (cutI x y u v c), .bool true]) ∧ w = w' := by
  obtain ⟨a1, a2, a3, a4⟩ := okp_yes h1
  obtain ⟨b1, b2, b3, b4⟩ := okp_yes h2
  have m1 := mul_in y (u - c) 16777216 33554432 ⟨a3, a4⟩ (by omega)
  have m2 := mul_in v (c - x) 16777216 33554432 ⟨b3, b4⟩ (by omega)
  clear h1 h2
  unfold cutI
  rcases h with ⟨p, q⟩ | ⟨p, q⟩
  · have hd : ¬ u - x < 0 := by omega
    rw [if_neg hd]
    have q1 : ¬ u < c := by omega
    go_enter Try.func24, Try.ntmps24
    go_wp2_with (go_at_call 61; refine (rround_yes _ _ _ (by omega) (by omega) (by omega) (by omega)).mono ?_; rintro e w' ⟨rfl, rfl⟩)
    go_ret2
    exact ⟨rfl, rfl⟩
  · have hd : u - x < 0 := by omega
    rw [if_pos hd]
    have q1 : ¬ x < c := by omega
    go_enter Try.func24, Try.ntmps24
    go_wp2_with (go_at_call 61; refine (rround_yes _ _ _ (by omega) (by omega) (by omega) (by omega)).mono ?_; rintro e w' ⟨rfl, rfl⟩)
    go_ret2
    exact ⟨rfl, rfl⟩
end Go.Proofs.Ytmhmccicnebhaaa
