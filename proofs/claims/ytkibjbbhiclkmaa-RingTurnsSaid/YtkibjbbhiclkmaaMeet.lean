/- Whether two edges' boxes meet. -/
import Derived.Test.YtkibjbbhiclkmaaEdSort
namespace Go.Proofs.Ytkibjbbhiclkmaa
open Go.RowKit Go.Shelf

def meetV (x y : Ed) : Bool := decide (x.lx ≤ y.hx) && decide (y.lx ≤ x.hx) && decide (x.ly ≤ y.hy) && decide (y.ly ≤ x.hy)

set_option maxRecDepth 100000 in
set_option maxHeartbeats 4000000 in
theorem meets_raw (a0 a1 a2 a3 a4 a5 a6 a7 a8 c0 c1 c2 c3 c4 c5 c6 c7 c8 : Int) (W : World) :
    Calls Try.prog 80 #[.agg #[.int .i64 a0, .int .i64 a1, .int .i64 a2, .int .i64 a3, .int .i64 a4, .int .i64 a5, .int .i64 a6, .int .i64 a7, .int .i64 a8], .agg #[.int .i64 c0, .int .i64 c1, .int .i64 c2, .int .i64 c3, .int .i64 c4, .int .i64 c5, .int .i64 c6, .int .i64 c7, .int .i64 c8]] W fun e w' =>
      e = .returned (.bool (decide (a5 ≤ c7) && decide (c5 ≤ a7) && decide (a6 ≤ c8) && decide (c6 ≤ a8))) ∧ Below W.heap.size W w' := by
  go_enter Try.func80, Try.ntmps80
  have hb := b2 W (.cells #[.int .i64 a0, .int .i64 a1, .int .i64 a2, .int .i64 a3, .int .i64 a4, .int .i64 a5, .int .i64 a6, .int .i64 a7, .int .i64 a8] 94) (.cells #[.int .i64 c0, .int .i64 c1, .int .i64 c2, .int .i64 c3, .int .i64 c4, .int .i64 c5, .int .i64 c6, .int .i64 c7, .int .i64 c8] 94)
  cases h1 : decide (a5 ≤ c7)
  · go_wp2_with fail
    go_ret
    exact ⟨by simp, hb⟩
  cases h2 : decide (c5 ≤ a7)
  · go_wp2_with fail
    go_ret
    exact ⟨by simp, hb⟩
  cases h3 : decide (a6 ≤ c8)
  · go_wp2_with fail
    go_ret
    exact ⟨by simp, hb⟩
  cases h4 : decide (c6 ≤ a8)
  · go_wp2_with fail
    go_ret
    exact ⟨by simp, hb⟩
  · go_wp2_with fail
    go_ret
    exact ⟨by simp, hb⟩
theorem meets_any (x y : Ed) (W : World) : Calls Try.prog 80 #[.agg (encEd x).toArray, .agg (encEd y).toArray] W fun e w' => e = .returned (.bool (meetV x y)) ∧ Below W.heap.size W w' :=
  meets_raw _ _ _ _ _ _ _ _ _ _ _ _ _ _ _ _ _ _ W
end Go.Proofs.Ytkibjbbhiclkmaa
