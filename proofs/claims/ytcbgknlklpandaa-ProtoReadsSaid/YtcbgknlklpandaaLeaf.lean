/- Walks of the leaves: what each call returns and what becomes of the world. -/
import Derived.Test.YtcbgknlklpandaaRows
import Derived.WalkKit
import Derived.WalkSpells
import Derived.WalkLawsBesides
import Derived.Lib.Hide
namespace Go.Proofs.Ytcbgknlklpandaa
open Go.RowKit

def bnd (v : Int) : Bool := decide (-16777216 ≤ v) && decide (v ≤ 16777216)
theorem bnd_yes {v : Int} (h : bnd v = true) : -16777216 ≤ v ∧ v ≤ 16777216 := by simpa [bnd] using h
theorem ret_bool {a b : Bool} (h : a = b) : Ending.returned (.bool a) = .returned (.bool b) := by rw [h]
theorem ret_int {k : IntKind} {a b : Int} (h : a = b) : Ending.returned (.int k a) = .returned (.int k b) := by rw [h]

set_option maxHeartbeats 400000 in
theorem bounded_any (v : Int) (w : World) : Calls Try.prog 86 #[.int .i64 v] w fun e w' => e = .returned (.bool (bnd v)) ∧ w = w' := by
  go_enter Try.func86, Try.ntmps86
  go_wp2
  all_goals
    go_ret
    exact ⟨ret_bool (by unfold bnd; simp; try omega), rfl⟩

set_option maxHeartbeats 400000 in
theorem between_any (a b v : Int) (w : World) : Calls Try.prog 93 #[.int .i64 a, .int .i64 b, .int .i64 v] w fun e w' => e = .returned (.bool (decide (min a b ≤ v) && decide (v ≤ max a b))) ∧ w = w' := by
  go_enter Try.func93, Try.ntmps93
  go_wp2
  all_goals
    go_ret
    exact ⟨ret_bool (by rw [Bool.eq_iff_iff]; simp; try omega), rfl⟩

set_option maxHeartbeats 400000 in
theorem of_any (x y : Int) (w : World) : Calls Try.prog 22 #[.agg #[.int .i64 x, .int .i64 y]] w fun e w' => e = .returned (.agg #[.int .i64 x, .int .i64 y]) ∧ Below w.heap.size w w' := by
  go_enter Try.func22, Try.ntmps22
  go_wp2
  exact bodyPost_ret (v := .agg #[.int .i64 x, .int .i64 y]) (by simp [results, Try.results22, go_sem]) rfl ⟨rfl, ((Below.refl _ _).alloc (Nat.le_refl _) _).alloc (by simp) _⟩

set_option maxHeartbeats 400000 in
theorem may_any (x y : Int) (w : World) : Calls Try.prog 100 #[.agg #[.int .i64 x, .int .i64 y]] w fun e w' => e = .returned (.bool (bnd x && bnd y)) ∧ Below w.heap.size w w' := by
  go_enter Try.func100, Try.ntmps100
  go_wp2
  all_goals
    go_ret
    exact ⟨ret_bool (by unfold bnd; rw [Bool.eq_iff_iff]; simp; try omega), (Below.refl _ _).alloc (Nat.le_refl _) _⟩

def lessB (ax ay bx b_y : Int) : Bool := if ax = bx then decide (ay < b_y) else decide (ax < bx)
set_option maxHeartbeats 400000 in
theorem less_any (ax ay bx b_y : Int) (w : World) : Calls Try.prog 135 #[.agg #[.int .i64 ax, .int .i64 ay], .agg #[.int .i64 bx, .int .i64 b_y]] w fun e w' => e = .returned (.bool (lessB ax ay bx b_y)) ∧ Below w.heap.size w w' := by
  go_enter Try.func135, Try.ntmps135
  go_wp2
  all_goals
    go_ret
    exact ⟨ret_bool (by unfold lessB; simp_all), ((Below.refl _ _).alloc (Nat.le_refl _) _).alloc (by simp) _⟩
def sgn (n : Int) : Int := if 0 < n then 1 else if n < 0 then -1 else 0
set_option maxHeartbeats 400000 in
theorem sign_any (n : Int) (w : World) : Calls Try.prog 101 #[.int .i64 n] w fun e w' => e = .returned (.int .i64 (sgn n)) ∧ w = w' := by
  go_enter Try.func101, Try.ntmps101
  go_wp2
  all_goals
    go_ret
    exact ⟨ret_int (by unfold sgn; split <;> (try split) <;> omega), rfl⟩
end Go.Proofs.Ytcbgknlklpandaa
