/- Regions in which memory is made in any order beside calls: what holds at each step. -/
import Derived.Test.YtenfaejdnphngaaKeep
import Derived.Orders
import Derived.RegionTactic
namespace Go.Proofs.Ytenfaejdnphngaa
open Go.RowKit

theorem wpAny_inv {P : Program} {md : Region.Mode} {ops : Array Oper} {Q : Exit → Act → World → Prop} {rest : Nat} (I : Nat → Array Bool → Act → World → Prop)
    (hne : ∀ m listed a w, I (m + 1) listed a w → Region.ready md ops listed ≠ [])
    (hstep : ∀ m listed a w, I (m + 1) listed a w → ∀ i ∈ Region.ready md ops listed, wpOp P ops Q i (fun a' w' => I m (listed.setIfInBounds i true) a' w') a w)
    (hbase : ∀ listed a w, I 0 listed a w → wpAny P md ops Q rest listed a w) : ∀ m listed a w, I m listed a w → wpAny P md ops Q (m + rest) listed a w
  | 0, listed, a, w, h => by rw [Nat.zero_add]; exact hbase listed a w h
  | m + 1, listed, a, w, h => by
    rw [Nat.add_right_comm]
    exact ⟨fun h0 => absurd h0 (hne m listed a w h), fun i hi => wpOp_mono (fun a' w' h' => wpAny_inv I hne hstep hbase m _ a' w' h') (hstep m listed a w h i hi)⟩

theorem wpAny_one {P : Program} {md : Region.Mode} {ops : Array Oper} {Q : Exit → Act → World → Prop} {fuel : Nat} {listed : Array Bool} {a : Act} {w : World} (i : Nat) (hr : Region.ready md ops listed = [i])
    (h : wpOp P ops Q i (wpAny P md ops Q fuel (listed.setIfInBounds i true)) a w) : wpAny P md ops Q (fuel + 1) listed a w :=
  ⟨fun h0 => (by rw [hr] at h0; cases h0), fun j hj => by rw [hr] at hj; obtain rfl := List.mem_singleton.1 hj; exact h⟩
theorem wpAny_none {P : Program} {md : Region.Mode} {ops : Array Oper} {Q : Exit → Act → World → Prop} {listed : Array Bool} {a : Act} {w : World} (hr : Region.ready md ops listed = []) (h : Q .normal a w) : wpAny P md ops Q 0 listed a w := ⟨hr, h⟩
theorem gen_q {Q : Exit → Act → World → Prop} {e : Exit} {a : Act} {w0 : World} (F : World → Prop) (h0 : F w0) (h : ∀ W, F W → Q e a W) : Q e a w0 := h w0 h0

/-- What a slot holds once its operation has come up. -/
def sl (b : Bool) (v : Value) : Value := if b then v else undef
@[simp, go_sem] theorem sl_true (v : Value) : sl true v = v := rfl
@[simp, go_sem] theorem sl_false (v : Value) : sl false v = undef := rfl
/-- A new point at block k, once it has been made. -/
def Fr (W : World) (B : Nat) (b : Bool) (k : Nat) : Prop :=
  b = true → B ≤ k ∧ W.cell? ⟨k, 0, none⟩ = some (.int .i64 0) ∧ W.cell? ⟨k, 1, none⟩ = some (.int .i64 0) ∧ W.frozen? ⟨k, 0, none⟩ = false ∧ W.frozen? ⟨k, 1, none⟩ = false
theorem Fr.lt {W : World} {B : Nat} {b : Bool} {k : Nat} (h : Fr W B b k) (hb : b = true) : k < W.heap.size := World.block_lt_of_cell? W ⟨k, 0, none⟩ (h hb).2.1
theorem Fr.keep {W w1 : World} {B : Nat} {b : Bool} {k : Nat} (hw : Below W.heap.size W w1) (h : Fr W B b k) : Fr w1 B b k := fun hb =>
  have hl := h.lt hb
  have h := h hb
  ⟨h.1, cell_later hw h.2.1, cell_later hw h.2.2.1, (hw.frozen (p := ⟨k, 0, none⟩) hl).trans h.2.2.2.1, (hw.frozen (p := ⟨k, 1, none⟩) hl).trans h.2.2.2.2⟩
theorem Fr.no (W : World) (B k : Nat) : Fr W B false k := fun h => by cases h
theorem Fr.new (W : World) (B : Nat) (t : TypeId) (hB : B ≤ W.heap.size) : Fr (W.alloc (.cells #[.int .i64 0, .int .i64 0] t)) B true W.heap.size := fun _ => by
  refine ⟨hB, ?_, ?_, ?_, ?_⟩ <;> go_simp

theorem Put.own {W : World} {B k : Nat} (x y : Int) (h : Fr W B true k) : (Put W k x y).cell? ⟨k, 0, none⟩ = some (.int .i64 x) ∧ (Put W k x y).cell? ⟨k, 1, none⟩ = some (.int .i64 y) := by
  obtain ⟨_, h0, h1, _, _⟩ := h rfl
  unfold Put
  have h1' : (W.setCell ⟨k, 0, none⟩ (.int .i64 x)).cell? ⟨k, 1, none⟩ = some (.int .i64 0) := by
    rw [World.cell?_setCell_other _ _ _ _ (by intro e; injection e with _ e2; cases e2)]; exact h1
  constructor
  · rw [World.cell?_setCell_other _ _ _ _ (by intro e; injection e with _ e2; cases e2), World.cell?_setCell_same _ _ _ h0]
  · rw [World.cell?_setCell_same _ _ _ h1']
theorem Fr.put {W : World} {B k j : Nat} (x y : Int) (h : Fr W B true k) (hj : k ≠ j) : Fr (Put W j x y) B true k := fun _ => by
  obtain ⟨hl, h0, h1, h2, h3⟩ := h rfl
  exact ⟨hl, (Put.other _ _ _ _ hj).trans h0, (Put.other _ _ _ _ hj).trans h1, (Put.frozen _ _ _ _ _).trans h2, (Put.frozen _ _ _ _ _).trans h3⟩

/-- 3 points boxed from the heap's old end on. -/
def OfS3 (w : World) (ax ay bx b_y cx cy : Int) (W : World) : Prop := W.cell? ⟨w.heap.size, 0, none⟩ = some (.int .i64 ax) ∧ W.cell? ⟨w.heap.size, 1, none⟩ = some (.int .i64 ay) ∧ W.cell? ⟨w.heap.size + 1, 0, none⟩ = some (.int .i64 bx) ∧ W.cell? ⟨w.heap.size + 1, 1, none⟩ = some (.int .i64 b_y) ∧ W.cell? ⟨w.heap.size + 1 + 1, 0, none⟩ = some (.int .i64 cx) ∧ W.cell? ⟨w.heap.size + 1 + 1, 1, none⟩ = some (.int .i64 cy) ∧ Below w.heap.size w W
theorem OfS3.keep {w : World} {ax ay bx b_y cx cy : Int} {W w1 : World} (hb : Below W.heap.size W w1) (h : OfS3 w ax ay bx b_y cx cy W) : OfS3 w ax ay bx b_y cx cy w1 := keep6 hb h
theorem OfS3.drew {w : World} {ax ay bx b_y cx cy : Int} {W : World} (h : OfS3 w ax ay bx b_y cx cy W) : OfS3 w ax ay bx b_y cx cy W.drew := ⟨h.1, h.2.1, h.2.2.1, h.2.2.2.1, h.2.2.2.2.1, h.2.2.2.2.2.1, h.2.2.2.2.2.2.drew⟩
/-- Which steps wait for which. -/
def Dep3 (t0 t1 t2 t3 t4 t5 : Bool) : Prop := (t1 = true → t0 = true) ∧ (t3 = true → t2 = true ∧ t1 = true) ∧ (t5 = true → t4 = true ∧ t3 = true)
/-- 4 points boxed from the heap's old end on. -/
def OfS4 (w : World) (ax ay bx b_y cx cy px py : Int) (W : World) : Prop := W.cell? ⟨w.heap.size, 0, none⟩ = some (.int .i64 ax) ∧ W.cell? ⟨w.heap.size, 1, none⟩ = some (.int .i64 ay) ∧ W.cell? ⟨w.heap.size + 1, 0, none⟩ = some (.int .i64 bx) ∧ W.cell? ⟨w.heap.size + 1, 1, none⟩ = some (.int .i64 b_y) ∧ W.cell? ⟨w.heap.size + 1 + 1, 0, none⟩ = some (.int .i64 cx) ∧ W.cell? ⟨w.heap.size + 1 + 1, 1, none⟩ = some (.int .i64 cy) ∧ W.cell? ⟨w.heap.size + 1 + 1 + 1, 0, none⟩ = some (.int .i64 px) ∧ W.cell? ⟨w.heap.size + 1 + 1 + 1, 1, none⟩ = some (.int .i64 py) ∧ Below w.heap.size w W
theorem OfS4.keep {w : World} {ax ay bx b_y cx cy px py : Int} {W w1 : World} (hb : Below W.heap.size W w1) (h : OfS4 w ax ay bx b_y cx cy px py W) : OfS4 w ax ay bx b_y cx cy px py w1 := keep8 hb h
theorem OfS4.drew {w : World} {ax ay bx b_y cx cy px py : Int} {W : World} (h : OfS4 w ax ay bx b_y cx cy px py W) : OfS4 w ax ay bx b_y cx cy px py W.drew := ⟨h.1, h.2.1, h.2.2.1, h.2.2.2.1, h.2.2.2.2.1, h.2.2.2.2.2.1, h.2.2.2.2.2.2.1, h.2.2.2.2.2.2.2.1, h.2.2.2.2.2.2.2.2.drew⟩
/-- Which steps wait for which. -/
def Dep4 (t0 t1 t2 t3 t4 t5 t6 t7 : Bool) : Prop := (t1 = true → t0 = true) ∧ (t3 = true → t2 = true ∧ t1 = true) ∧ (t5 = true → t4 = true ∧ t3 = true) ∧ (t7 = true → t6 = true ∧ t5 = true)
/-- 3 points boxed, and their 3 copies. -/
def OfT3 (w : World) (k0 k1 k2 : Nat) (ax ay bx b_y cx cy : Int) (W : World) : Prop := W.cell? ⟨w.heap.size, 0, none⟩ = some (.int .i64 ax) ∧ W.cell? ⟨w.heap.size, 1, none⟩ = some (.int .i64 ay) ∧ W.cell? ⟨w.heap.size + 1, 0, none⟩ = some (.int .i64 bx) ∧ W.cell? ⟨w.heap.size + 1, 1, none⟩ = some (.int .i64 b_y) ∧ W.cell? ⟨w.heap.size + 1 + 1, 0, none⟩ = some (.int .i64 cx) ∧ W.cell? ⟨w.heap.size + 1 + 1, 1, none⟩ = some (.int .i64 cy) ∧ W.cell? ⟨k0, 0, none⟩ = some (.int .i64 ax) ∧ W.cell? ⟨k0, 1, none⟩ = some (.int .i64 ay) ∧ W.cell? ⟨k1, 0, none⟩ = some (.int .i64 bx) ∧ W.cell? ⟨k1, 1, none⟩ = some (.int .i64 b_y) ∧ W.cell? ⟨k2, 0, none⟩ = some (.int .i64 cx) ∧ W.cell? ⟨k2, 1, none⟩ = some (.int .i64 cy) ∧ Below w.heap.size w W
theorem OfT3.keep {w : World} {k0 k1 k2 : Nat} {ax ay bx b_y cx cy : Int} {W w1 : World} (hb : Below W.heap.size W w1) (h : OfT3 w k0 k1 k2 ax ay bx b_y cx cy W) : OfT3 w k0 k1 k2 ax ay bx b_y cx cy w1 := keep12 hb h
theorem OfT3.drew {w : World} {k0 k1 k2 : Nat} {ax ay bx b_y cx cy : Int} {W : World} (h : OfT3 w k0 k1 k2 ax ay bx b_y cx cy W) : OfT3 w k0 k1 k2 ax ay bx b_y cx cy W.drew := ⟨h.1, h.2.1, h.2.2.1, h.2.2.2.1, h.2.2.2.2.1, h.2.2.2.2.2.1, h.2.2.2.2.2.2.1, h.2.2.2.2.2.2.2.1, h.2.2.2.2.2.2.2.2.1, h.2.2.2.2.2.2.2.2.2.1, h.2.2.2.2.2.2.2.2.2.2.1, h.2.2.2.2.2.2.2.2.2.2.2.1, h.2.2.2.2.2.2.2.2.2.2.2.2.drew⟩
theorem OfT3.of {w : World} {k0 k1 k2 : Nat} {ax ay bx b_y cx cy : Int} {W : World} (hS : OfS3 w ax ay bx b_y cx cy W) (f0 : Fr W (w.heap.size + 3) true k0) (f1 : Fr W (w.heap.size + 3) true k1) (f2 : Fr W (w.heap.size + 3) true k2) (e01 : k0 ≠ k1) (e02 : k0 ≠ k2) (e12 : k1 ≠ k2) : OfT3 w k0 k1 k2 ax ay bx b_y cx cy (Put (Put (Put W k0 ax ay) k1 bx b_y) k2 cx cy) := by
  have l0 := (f0 rfl).1
  have l1 := (f1 rfl).1
  have l2 := (f2 rfl).1
  exact ⟨((Put.other _ _ _ _ (by omega)).trans ((Put.other _ _ _ _ (by omega)).trans ((Put.other _ _ _ _ (by omega)).trans hS.1))), ((Put.other _ _ _ _ (by omega)).trans ((Put.other _ _ _ _ (by omega)).trans ((Put.other _ _ _ _ (by omega)).trans hS.2.1))), ((Put.other _ _ _ _ (by omega)).trans ((Put.other _ _ _ _ (by omega)).trans ((Put.other _ _ _ _ (by omega)).trans hS.2.2.1))), ((Put.other _ _ _ _ (by omega)).trans ((Put.other _ _ _ _ (by omega)).trans ((Put.other _ _ _ _ (by omega)).trans hS.2.2.2.1))), ((Put.other _ _ _ _ (by omega)).trans ((Put.other _ _ _ _ (by omega)).trans ((Put.other _ _ _ _ (by omega)).trans hS.2.2.2.2.1))), ((Put.other _ _ _ _ (by omega)).trans ((Put.other _ _ _ _ (by omega)).trans ((Put.other _ _ _ _ (by omega)).trans hS.2.2.2.2.2.1))), ((Put.other _ _ _ _ e02).trans ((Put.other _ _ _ _ e01).trans (Put.own ax ay f0).1)), ((Put.other _ _ _ _ e02).trans ((Put.other _ _ _ _ e01).trans (Put.own ax ay f0).2)), ((Put.other _ _ _ _ e12).trans (Put.own bx b_y (f1.put ax ay (Ne.symm e01))).1), ((Put.other _ _ _ _ e12).trans (Put.own bx b_y (f1.put ax ay (Ne.symm e01))).2), (Put.own cx cy ((f2.put ax ay (Ne.symm e02)).put bx b_y (Ne.symm e12))).1, (Put.own cx cy ((f2.put ax ay (Ne.symm e02)).put bx b_y (Ne.symm e12))).2, (Put.below _ _ (Put.below _ _ (Put.below _ _ hS.2.2.2.2.2.2 (by omega)) (by omega)) (by omega))⟩
/-- 4 points boxed, and their 4 copies. -/
def OfT4 (w : World) (k0 k1 k2 k3 : Nat) (ax ay bx b_y cx cy px py : Int) (W : World) : Prop := W.cell? ⟨w.heap.size, 0, none⟩ = some (.int .i64 ax) ∧ W.cell? ⟨w.heap.size, 1, none⟩ = some (.int .i64 ay) ∧ W.cell? ⟨w.heap.size + 1, 0, none⟩ = some (.int .i64 bx) ∧ W.cell? ⟨w.heap.size + 1, 1, none⟩ = some (.int .i64 b_y) ∧ W.cell? ⟨w.heap.size + 1 + 1, 0, none⟩ = some (.int .i64 cx) ∧ W.cell? ⟨w.heap.size + 1 + 1, 1, none⟩ = some (.int .i64 cy) ∧ W.cell? ⟨w.heap.size + 1 + 1 + 1, 0, none⟩ = some (.int .i64 px) ∧ W.cell? ⟨w.heap.size + 1 + 1 + 1, 1, none⟩ = some (.int .i64 py) ∧ W.cell? ⟨k0, 0, none⟩ = some (.int .i64 ax) ∧ W.cell? ⟨k0, 1, none⟩ = some (.int .i64 ay) ∧ W.cell? ⟨k1, 0, none⟩ = some (.int .i64 bx) ∧ W.cell? ⟨k1, 1, none⟩ = some (.int .i64 b_y) ∧ W.cell? ⟨k2, 0, none⟩ = some (.int .i64 cx) ∧ W.cell? ⟨k2, 1, none⟩ = some (.int .i64 cy) ∧ W.cell? ⟨k3, 0, none⟩ = some (.int .i64 px) ∧ W.cell? ⟨k3, 1, none⟩ = some (.int .i64 py) ∧ Below w.heap.size w W
theorem OfT4.keep {w : World} {k0 k1 k2 k3 : Nat} {ax ay bx b_y cx cy px py : Int} {W w1 : World} (hb : Below W.heap.size W w1) (h : OfT4 w k0 k1 k2 k3 ax ay bx b_y cx cy px py W) : OfT4 w k0 k1 k2 k3 ax ay bx b_y cx cy px py w1 := keep16 hb h
theorem OfT4.drew {w : World} {k0 k1 k2 k3 : Nat} {ax ay bx b_y cx cy px py : Int} {W : World} (h : OfT4 w k0 k1 k2 k3 ax ay bx b_y cx cy px py W) : OfT4 w k0 k1 k2 k3 ax ay bx b_y cx cy px py W.drew := ⟨h.1, h.2.1, h.2.2.1, h.2.2.2.1, h.2.2.2.2.1, h.2.2.2.2.2.1, h.2.2.2.2.2.2.1, h.2.2.2.2.2.2.2.1, h.2.2.2.2.2.2.2.2.1, h.2.2.2.2.2.2.2.2.2.1, h.2.2.2.2.2.2.2.2.2.2.1, h.2.2.2.2.2.2.2.2.2.2.2.1, h.2.2.2.2.2.2.2.2.2.2.2.2.1, h.2.2.2.2.2.2.2.2.2.2.2.2.2.1, h.2.2.2.2.2.2.2.2.2.2.2.2.2.2.1, h.2.2.2.2.2.2.2.2.2.2.2.2.2.2.2.1, h.2.2.2.2.2.2.2.2.2.2.2.2.2.2.2.2.drew⟩
theorem OfT4.of {w : World} {k0 k1 k2 k3 : Nat} {ax ay bx b_y cx cy px py : Int} {W : World} (hS : OfS4 w ax ay bx b_y cx cy px py W) (f0 : Fr W (w.heap.size + 4) true k0) (f1 : Fr W (w.heap.size + 4) true k1) (f2 : Fr W (w.heap.size + 4) true k2) (f3 : Fr W (w.heap.size + 4) true k3) (e01 : k0 ≠ k1) (e02 : k0 ≠ k2) (e03 : k0 ≠ k3) (e12 : k1 ≠ k2) (e13 : k1 ≠ k3) (e23 : k2 ≠ k3) : OfT4 w k0 k1 k2 k3 ax ay bx b_y cx cy px py (Put (Put (Put (Put W k0 ax ay) k1 bx b_y) k2 cx cy) k3 px py) := by
  have l0 := (f0 rfl).1
  have l1 := (f1 rfl).1
  have l2 := (f2 rfl).1
  have l3 := (f3 rfl).1
  exact ⟨((Put.other _ _ _ _ (by omega)).trans ((Put.other _ _ _ _ (by omega)).trans ((Put.other _ _ _ _ (by omega)).trans ((Put.other _ _ _ _ (by omega)).trans hS.1)))), ((Put.other _ _ _ _ (by omega)).trans ((Put.other _ _ _ _ (by omega)).trans ((Put.other _ _ _ _ (by omega)).trans ((Put.other _ _ _ _ (by omega)).trans hS.2.1)))), ((Put.other _ _ _ _ (by omega)).trans ((Put.other _ _ _ _ (by omega)).trans ((Put.other _ _ _ _ (by omega)).trans ((Put.other _ _ _ _ (by omega)).trans hS.2.2.1)))), ((Put.other _ _ _ _ (by omega)).trans ((Put.other _ _ _ _ (by omega)).trans ((Put.other _ _ _ _ (by omega)).trans ((Put.other _ _ _ _ (by omega)).trans hS.2.2.2.1)))), ((Put.other _ _ _ _ (by omega)).trans ((Put.other _ _ _ _ (by omega)).trans ((Put.other _ _ _ _ (by omega)).trans ((Put.other _ _ _ _ (by omega)).trans hS.2.2.2.2.1)))), ((Put.other _ _ _ _ (by omega)).trans ((Put.other _ _ _ _ (by omega)).trans ((Put.other _ _ _ _ (by omega)).trans ((Put.other _ _ _ _ (by omega)).trans hS.2.2.2.2.2.1)))), ((Put.other _ _ _ _ (by omega)).trans ((Put.other _ _ _ _ (by omega)).trans ((Put.other _ _ _ _ (by omega)).trans ((Put.other _ _ _ _ (by omega)).trans hS.2.2.2.2.2.2.1)))), ((Put.other _ _ _ _ (by omega)).trans ((Put.other _ _ _ _ (by omega)).trans ((Put.other _ _ _ _ (by omega)).trans ((Put.other _ _ _ _ (by omega)).trans hS.2.2.2.2.2.2.2.1)))), ((Put.other _ _ _ _ e03).trans ((Put.other _ _ _ _ e02).trans ((Put.other _ _ _ _ e01).trans (Put.own ax ay f0).1))), ((Put.other _ _ _ _ e03).trans ((Put.other _ _ _ _ e02).trans ((Put.other _ _ _ _ e01).trans (Put.own ax ay f0).2))), ((Put.other _ _ _ _ e13).trans ((Put.other _ _ _ _ e12).trans (Put.own bx b_y (f1.put ax ay (Ne.symm e01))).1)), ((Put.other _ _ _ _ e13).trans ((Put.other _ _ _ _ e12).trans (Put.own bx b_y (f1.put ax ay (Ne.symm e01))).2)), ((Put.other _ _ _ _ e23).trans (Put.own cx cy ((f2.put ax ay (Ne.symm e02)).put bx b_y (Ne.symm e12))).1), ((Put.other _ _ _ _ e23).trans (Put.own cx cy ((f2.put ax ay (Ne.symm e02)).put bx b_y (Ne.symm e12))).2), (Put.own px py (((f3.put ax ay (Ne.symm e03)).put bx b_y (Ne.symm e13)).put cx cy (Ne.symm e23))).1, (Put.own px py (((f3.put ax ay (Ne.symm e03)).put bx b_y (Ne.symm e13)).put cx cy (Ne.symm e23))).2, (Put.below _ _ (Put.below _ _ (Put.below _ _ (Put.below _ _ hS.2.2.2.2.2.2.2.2 (by omega)) (by omega)) (by omega)) (by omega))⟩
end Go.Proofs.Ytenfaejdnphngaa
