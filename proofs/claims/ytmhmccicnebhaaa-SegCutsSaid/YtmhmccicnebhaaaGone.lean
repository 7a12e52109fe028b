/- Walks of the closures by which cuts are sorted. -/
import Derived.Test.YtmhmccicnebhaaaSortL
import Derived.Test.YtmhmccicnebhaaaAt
import Derived.Test.YtmhmccicnebhaaaCutSym
import Derived.Deep.QuietTactic
import Derived.BigQuiet
import Derived.Shelf.SlSortCmp.WholeK
namespace Go.Proofs.Ytmhmccicnebhaaa
open Go.RowKit Go.Sort Go.Shelf Go.Lib

/-- A point that may be. -/
abbrev PB : Type := { p : Int × Int // okp p.1 p.2 = true }
instance : Inhabited PB := ⟨⟨(0, 0), rfl⟩⟩
def encB (x : PB) : List Value := [.int .i64 x.1.1, .int .i64 x.1.2]

set_option maxRecDepth 100000 in
set_option maxHeartbeats 400000 in
theorem cabs_any (n : Int) (w : World) (h1 : -4611686018427387904 ≤ n) (h2 : n ≤ 4611686018427387904) : Calls Try.prog 94 #[.int .i64 n] w fun e w' => e = .returned (.int .i64 (n.natAbs : Int)) ∧ w' = w := by
  by_cases h : n < 0
  all_goals
    go_enter Try.func94, Try.ntmps94
    go_wp2
    go_ret
    exact ⟨ret_int (by omega), rfl⟩

set_option maxRecDepth 100000 in
set_option maxHeartbeats 1000000 in
theorem gone_any (ax ay px py : Int) (B : Nat) (W : World) (ha : okp ax ay = true) (hp : okp px py = true) (h0 : W.cell? ⟨B, 0, none⟩ = some (.int .i64 ax)) (h1 : W.cell? ⟨B, 1, none⟩ = some (.int .i64 ay)) :
    Calls Try.prog 93 #[.agg #[.int .i64 px, .int .i64 py], .pointer (some ⟨B, 0, none⟩)] W fun e w' => e = .returned (.int .i64 (dist (ax, ay) (px, py))) ∧ ∃ q os', w' = grow (W.drewN q) os' := by
  obtain ⟨a1, a2, a3, a4⟩ := okp_yes ha
  obtain ⟨p1, p2, p3, p4⟩ := okp_yes hp
  clear ha hp
  have hB : B < W.heap.size := World.block_lt_of_cell? W ⟨B, 0, none⟩ h0
  have hd : Hid (dist (ax, ay) (px, py) = ((px - ax).natAbs : Int) + ((py - ay).natAbs : Int)) := Lib.hid rfl
  have x1 : IntKind.i64.wrap (px - ax) = px - ax := IntWalk.i64_in _ (by omega)
  have x2 : IntKind.i64.wrap (py - ay) = py - ay := IntWalk.i64_in _ (by omega)
  have c1 := fun w => cabs_any (px - ax) w (by omega) (by omega)
  have c2 := fun w => cabs_any (py - ay) w (by omega) (by omega)
  have x3 : IntKind.i64.wrap (((px - ax).natAbs : Int) + ((py - ay).natAbs : Int)) = ((px - ax).natAbs : Int) + ((py - ay).natAbs : Int) := IntWalk.i64_in _ (by omega)
  generalize ((px - ax).natAbs : Int) = m1 at *
  generalize ((py - ay).natAbs : Int) = m2 at *
  rw [hd.out]
  clear hd
  go_enter Try.func93, Try.ntmps93
  go_wp2_with fail
  go_quiet ((first | (go_at_call 94; exact Calls.quiet_of_same (c1 _)) | (go_at_call 94; exact Calls.quiet_of_same (c2 _))))
  go_wp2
  go_ret
  exact ⟨rfl, nq, #[.cells #[.int .i64 px, .int .i64 py] 23], by rw [alloc_eq_grow]; rfl⟩

def cfB (a : Int × Int) (x y : PB) : Int := dist a x.1 - dist a y.1
theorem okB (x : PB) : -16777216 ≤ x.1.1 ∧ x.1.1 ≤ 16777216 ∧ -16777216 ≤ x.1.2 ∧ x.1.2 ≤ 16777216 := okp_yes x.2
theorem dist_in {ax ay px py : Int} (ha : okp ax ay = true) (hp : okp px py = true) : 0 ≤ dist (ax, ay) (px, py) ∧ dist (ax, ay) (px, py) ≤ 67108864 := by
  obtain ⟨a1, a2, a3, a4⟩ := okp_yes ha
  obtain ⟨p1, p2, p3, p4⟩ := okp_yes hp
  unfold dist; simp only []; omega

set_option maxRecDepth 100000 in
set_option maxHeartbeats 2000000 in
/-- The comparison, in whatever world that holds the first closure and the point it is bound to. -/
theorem cmp_any (ax ay : Int) (B B1 : Nat) (W : World) (ha : okp ax ay = true) (x y : PB) (h0 : W.cell? ⟨B, 0, none⟩ = some (.int .i64 ax)) (h1 : W.cell? ⟨B, 1, none⟩ = some (.int .i64 ay))
    (h2 : W.cell? ⟨B1, 0, none⟩ = some (.func (.func 93) #[] #[.pointer (some ⟨B, 0, none⟩)])) :
    Calls Try.prog 96 #[.agg #[.int .i64 x.1.1, .int .i64 x.1.2], .agg #[.int .i64 y.1.1, .int .i64 y.1.2], .pointer (some ⟨B1, 0, none⟩)] W fun e w' => e = .returned (.int .i64 (cfB (ax, ay) x y)) ∧ ∃ q os', w' = grow (W.drewN q) os' := by
  obtain ⟨⟨px, py⟩, hx⟩ := x
  obtain ⟨⟨qx, qy⟩, hy⟩ := y
  have hB : B < W.heap.size := World.block_lt_of_cell? W ⟨B, 0, none⟩ h0
  have hB1 : B1 < W.heap.size := World.block_lt_of_cell? W ⟨B1, 0, none⟩ h2
  have hX : okp px py = true := hx
  have hY : okp qx qy = true := hy
  show Calls Try.prog 96 #[.agg #[.int .i64 px, .int .i64 py], .agg #[.int .i64 qx, .int .i64 qy], .pointer (some ⟨B1, 0, none⟩)] W fun e w' => e = .returned (.int .i64 (dist (ax, ay) (px, py) - dist (ax, ay) (qx, qy))) ∧ ∃ q os', w' = grow (W.drewN q) os'
  have d1 := dist_in ha hX
  have d2 := dist_in ha hY
  have x3 : IntKind.i64.wrap (dist (ax, ay) (px, py) - dist (ax, ay) (qx, qy)) = dist (ax, ay) (px, py) - dist (ax, ay) (qx, qy) := IntWalk.i64_in _ (by omega)
  have hW : Hid ((fun V : World => B < V.heap.size ∧ B1 < V.heap.size ∧ V.cell? ⟨B, 0, none⟩ = some (.int .i64 ax) ∧ V.cell? ⟨B, 1, none⟩ = some (.int .i64 ay) ∧ V.cell? ⟨B1, 0, none⟩ = some (.func (.func 93) #[] #[.pointer (some ⟨B, 0, none⟩)]) ∧
      V.cell? ⟨W.heap.size, 0, none⟩ = some (.int .i64 px) ∧ V.cell? ⟨W.heap.size, 1, none⟩ = some (.int .i64 py) ∧ V.cell? ⟨W.heap.size + 1, 0, none⟩ = some (.int .i64 qx) ∧ V.cell? ⟨W.heap.size + 1, 1, none⟩ = some (.int .i64 qy) ∧ W.heap.size + 1 < V.heap.size) ((W.alloc (.cells #[.int .i64 px, .int .i64 py] 23)).alloc (.cells #[.int .i64 qx, .int .i64 qy] 23))) := by
    refine Lib.hid ⟨by simp; omega, by simp; omega, ?_, ?_, ?_, by go_simp, by go_simp, by go_simp, by go_simp, by simp⟩
    · exact ((b2 W _ _).cell (p := ⟨B, 0, none⟩) hB).trans h0
    · exact ((b2 W _ _).cell (p := ⟨B, 1, none⟩) hB).trans h1
    · exact ((b2 W _ _).cell (p := ⟨B1, 0, none⟩) hB1).trans h2
  have hwe : Hid (((W.alloc (.cells #[.int .i64 px, .int .i64 py] 23)).alloc (.cells #[.int .i64 qx, .int .i64 qy] 23)) = grow W #[.cells #[.int .i64 px, .int .i64 py] 23, .cells #[.int .i64 qx, .int .i64 qy] 23]) := Lib.hid (by rw [alloc_eq_grow, alloc_eq_grow, grow_grow]; rfl)
  have mixed : Try.prog.follows .mixedOrders = true := by kernel_rfl
  go_enter Try.func96, Try.ntmps96
  go_wp2_with fail
  generalize hV : (W.alloc (.cells #[.int .i64 px, .int .i64 py] 23)).alloc (.cells #[.int .i64 qx, .int .i64 qy] 23) = V at hW hwe ⊢
  clear hV
  obtain ⟨l0, l1, g0, g1, g2, g3, g4, g5, g6, l2⟩ := hW.out
  clear hW h0 h1 h2
  have r0 : ∀ n os, (grow (V.drewN n) os).cell? ⟨B1, 0, none⟩ = some (.func (.func 93) #[] #[.pointer (some ⟨B, 0, none⟩)]) := fun n os => cell_grown (a := ⟨B1, 0, none⟩) l1 g2 n os
  have r1 : ∀ n os, (grow (V.drewN n) os).cell? ⟨W.heap.size, 0, none⟩ = some (.int .i64 px) := fun n os => cell_grown (a := ⟨W.heap.size, 0, none⟩) (by show W.heap.size < _; omega) g3 n os
  have r2 : ∀ n os, (grow (V.drewN n) os).cell? ⟨W.heap.size, 1, none⟩ = some (.int .i64 py) := fun n os => cell_grown (a := ⟨W.heap.size, 1, none⟩) (by show W.heap.size < _; omega) g4 n os
  have r3 : ∀ n os, (grow (V.drewN n) os).cell? ⟨W.heap.size + 1, 0, none⟩ = some (.int .i64 qx) := fun n os => cell_grown (a := ⟨W.heap.size + 1, 0, none⟩) l2 g5 n os
  have r4 : ∀ n os, (grow (V.drewN n) os).cell? ⟨W.heap.size + 1, 1, none⟩ = some (.int .i64 qy) := fun n os => cell_grown (a := ⟨W.heap.size + 1, 1, none⟩) l2 g6 n os
  have k1 := fun n os => gone_any ax ay px py B (grow (V.drewN n) os) ha hX (cell_grown (a := ⟨B, 0, none⟩) l0 g0 n os) (cell_grown (a := ⟨B, 1, none⟩) l0 g1 n os)
  have k2 := fun n os => gone_any ax ay qx qy B (grow (V.drewN n) os) ha hY (cell_grown (a := ⟨B, 0, none⟩) l0 g0 n os) (cell_grown (a := ⟨B, 1, none⟩) l0 g1 n os)
  clear g0 g1 g2 g3 g4 g5 g6 l0 l1 l2 hx hy hX hY ha d1 d2
  go_quiet_grown ((first | (go_at_call 93; with_reducible exact Calls.grown_of (k1 _ _)) | (go_at_call 93; with_reducible exact Calls.grown_of (k2 _ _))))
  go_wp2
  go_ret
  exact ⟨rfl, nq, #[.cells #[.int .i64 px, .int .i64 py] 23, .cells #[.int .i64 qx, .int .i64 qy] 23] ++ osq, by rw [hwe.out, ← grow_grow]; rfl⟩
end Go.Proofs.Ytmhmccicnebhaaa
