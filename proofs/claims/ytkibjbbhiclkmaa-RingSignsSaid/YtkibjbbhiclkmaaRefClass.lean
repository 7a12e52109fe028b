/- The walk of the document's six classes. -/
import Derived.Test.YtkibjbbhiclkmaaSegWalk
import Derived.Test.YtkibjbbhiclkmaaClsSwap
import Derived.Deep.DeepCutAuto
import Derived.BigRegion
import Derived.RegionTactic
namespace Go.Proofs.Ytkibjbbhiclkmaa
open Go.RowKit

theorem req_pt (ax ay bx b_y : Int) (w : World) : Sem.run Try.prog (binOp .eql 32 (.agg #[.int .i64 ax, .int .i64 ay]) (.agg #[.int .i64 bx, .int .i64 b_y])) w = .ok (.bool (eqB ax ay bx b_y)) w := by
  have u3 := Try.underlying3
  have hS : Try.prog.underlying 32 = some (.struct (Try.prog.fieldsOf 32)) := by kernel_rfl
  have hp : Try.prog.stoodInHeld 32 = false := by kernel_rfl
  rw [run_eql_struct, show (10000 : Nat) = 9999 + 1 from rfl, run_equalIn_agg w 9999 32 _ _ hS hp]
  simp only [Program.fieldsOf, Try.underlying32]
  unfold eqB
  go_simp
  by_cases h1 : ax = bx <;> by_cases h2 : ay = b_y <;> simp [h1, h2]

/-- The four points, and two of them once more in a slice. -/
def RS (w : World) (ax ay bx b_y cx cy dx dy : Int) (B : Nat) (px py qx qy : Int) (W : World) : Prop := W.cell? ⟨w.heap.size, 0, none⟩ = some (.int .i64 ax) ∧ W.cell? ⟨w.heap.size, 1, none⟩ = some (.int .i64 ay) ∧ W.cell? ⟨w.heap.size + 1, 0, none⟩ = some (.int .i64 bx) ∧ W.cell? ⟨w.heap.size + 1, 1, none⟩ = some (.int .i64 b_y) ∧ W.cell? ⟨w.heap.size + 1 + 1, 0, none⟩ = some (.int .i64 cx) ∧ W.cell? ⟨w.heap.size + 1 + 1, 1, none⟩ = some (.int .i64 cy) ∧ W.cell? ⟨w.heap.size + 1 + 1 + 1, 0, none⟩ = some (.int .i64 dx) ∧ W.cell? ⟨w.heap.size + 1 + 1 + 1, 1, none⟩ = some (.int .i64 dy) ∧ (W.cell? ⟨B, 0, none⟩ = some (.int .i64 px) ∧ W.cell? ⟨B, 1, none⟩ = some (.int .i64 py) ∧ W.cell? ⟨B, 2, none⟩ = some (.int .i64 qx) ∧ W.cell? ⟨B, 3, none⟩ = some (.int .i64 qy)) ∧ Below w.heap.size w W
theorem RS.keep {w W w1 : World} {ax ay bx b_y cx cy dx dy : Int} {B : Nat} {px py qx qy : Int} (hb : Below W.heap.size W w1) (h : RS w ax ay bx b_y cx cy dx dy B px py qx qy W) : RS w ax ay bx b_y cx cy dx dy B px py qx qy w1 := by
  obtain ⟨h0, h1, h2, h3, h4, h5, h6, h7, ⟨k0, k1, k2, k3⟩, hB⟩ := h
  exact ⟨cell_later hb h0, cell_later hb h1, cell_later hb h2, cell_later hb h3, cell_later hb h4, cell_later hb h5, cell_later hb h6, cell_later hb h7, ⟨cell_later hb k0, cell_later hb k1, cell_later hb k2, cell_later hb k3⟩, hB.trans (hb.mono hB.size)⟩
theorem RS.drewN {w W : World} {ax ay bx b_y cx cy dx dy : Int} {B : Nat} {px py qx qy : Int} (j : Nat) (h : RS w ax ay bx b_y cx cy dx dy B px py qx qy W) : RS w ax ay bx b_y cx cy dx dy B px py qx qy (W.drewN j) := by
  obtain ⟨h0, h1, h2, h3, h4, h5, h6, h7, ⟨k0, k1, k2, k3⟩, hB⟩ := h
  exact ⟨h0, h1, h2, h3, h4, h5, h6, h7, ⟨k0, k1, k2, k3⟩, ⟨hB.os, hB.tape, hB.output, hB.size, hB.block⟩⟩
theorem RS.is {w W : World} {ax ay bx b_y cx cy dx dy : Int} {B : Nat} {px py qx qy : Int} (h : RS w ax ay bx b_y cx cy dx dy B px py qx qy W) : W.cell? ⟨w.heap.size, 0, none⟩ = some (.int .i64 ax) ∧ W.cell? ⟨w.heap.size, 1, none⟩ = some (.int .i64 ay) ∧ W.cell? ⟨w.heap.size + 1, 0, none⟩ = some (.int .i64 bx) ∧ W.cell? ⟨w.heap.size + 1, 1, none⟩ = some (.int .i64 b_y) ∧ W.cell? ⟨w.heap.size + 1 + 1, 0, none⟩ = some (.int .i64 cx) ∧ W.cell? ⟨w.heap.size + 1 + 1, 1, none⟩ = some (.int .i64 cy) ∧ W.cell? ⟨w.heap.size + 1 + 1 + 1, 0, none⟩ = some (.int .i64 dx) ∧ W.cell? ⟨w.heap.size + 1 + 1 + 1, 1, none⟩ = some (.int .i64 dy) ∧ (W.cell? ⟨B, 0, none⟩ = some (.int .i64 px) ∧ W.cell? ⟨B, 1, none⟩ = some (.int .i64 py) ∧ W.cell? ⟨B, 2, none⟩ = some (.int .i64 qx) ∧ W.cell? ⟨B, 3, none⟩ = some (.int .i64 qy)) ∧ Below w.heap.size w W := h
theorem keep12b {w W w1 : World} {a0 a1 a2 a3 a4 a5 a6 a7 a8 a9 a10 a11 : Addr} {v0 v1 v2 v3 v4 v5 v6 v7 v8 v9 v10 v11 : Value} (hb : Below W.heap.size W w1) (h : W.cell? a0 = some v0 ∧ W.cell? a1 = some v1 ∧ W.cell? a2 = some v2 ∧ W.cell? a3 = some v3 ∧ W.cell? a4 = some v4 ∧ W.cell? a5 = some v5 ∧ W.cell? a6 = some v6 ∧ W.cell? a7 = some v7 ∧ (W.cell? a8 = some v8 ∧ W.cell? a9 = some v9 ∧ W.cell? a10 = some v10 ∧ W.cell? a11 = some v11) ∧ Below w.heap.size w W) :
    w1.cell? a0 = some v0 ∧ w1.cell? a1 = some v1 ∧ w1.cell? a2 = some v2 ∧ w1.cell? a3 = some v3 ∧ w1.cell? a4 = some v4 ∧ w1.cell? a5 = some v5 ∧ w1.cell? a6 = some v6 ∧ w1.cell? a7 = some v7 ∧ (w1.cell? a8 = some v8 ∧ w1.cell? a9 = some v9 ∧ w1.cell? a10 = some v10 ∧ w1.cell? a11 = some v11) ∧ Below w.heap.size w w1 := by
  obtain ⟨h0, h1, h2, h3, h4, h5, h6, h7, ⟨k0, k1, k2, k3⟩, hB⟩ := h
  exact ⟨cell_later hb h0, cell_later hb h1, cell_later hb h2, cell_later hb h3, cell_later hb h4, cell_later hb h5, cell_later hb h6, cell_later hb h7, ⟨cell_later hb k0, cell_later hb k1, cell_later hb k2, cell_later hb k3⟩, hB.trans (hb.mono hB.size)⟩
/-- What has been counted behind k rounds. -/
def cnt2 (x y : Int) (k : Nat) : Int := if k = 0 then 0 else if k = 1 then x else x + y
theorem cnt2_0 (x y : Int) : cnt2 x y 0 = 0 := rfl
theorem cnt2_1 (x y : Int) : cnt2 x y 1 = x := rfl
theorem cnt2_2 (x y : Int) : cnt2 x y 2 = x + y := rfl
theorem bi_in (b : Bool) : 0 ≤ bi b ∧ bi b ≤ 1 := by cases b <;> decide

end Go.Proofs.Ytkibjbbhiclkmaa
