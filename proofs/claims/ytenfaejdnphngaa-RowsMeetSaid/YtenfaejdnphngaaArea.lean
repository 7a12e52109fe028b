/- Walks of the doubled areas: Cross, Turn, and the document's own. -/
import Derived.Test.YtenfaejdnphngaaRight
import Derived.Test.YtenfaejdnphngaaQuo
import Derived.Test.YtenfaejdnphngaaGeo
namespace Go.Proofs.Ytenfaejdnphngaa
open Go.RowKit

def okp (x y : Int) : Bool := bnd x && bnd y
theorem okp_yes {x y : Int} (h : okp x y = true) : -16777216 ≤ x ∧ x ≤ 16777216 ∧ -16777216 ≤ y ∧ y ≤ 16777216 := by
  simp only [okp, Bool.and_eq_true] at h
  have := bnd_yes h.1; have := bnd_yes h.2; omega
/-- All old cells, and all old marks, read as before. -/
theorem bcell {W w1 : World} (hb : Below W.heap.size W w1) : (∀ b o, b < W.heap.size → w1.cell? ⟨b, o, none⟩ = W.cell? ⟨b, o, none⟩) ∧ (∀ b o, b < W.heap.size → w1.frozen? ⟨b, o, none⟩ = W.frozen? ⟨b, o, none⟩) :=
  ⟨fun b o h => hb.cell (p := ⟨b, o, none⟩) h, fun b o h => hb.frozen (p := ⟨b, o, none⟩) h⟩

theorem b1 (w : World) (o : Obj) : Below w.heap.size w (w.alloc o) := (Below.refl _ _).alloc (Nat.le_refl _) _
theorem b2 (w : World) (o p : Obj) : Below w.heap.size w ((w.alloc o).alloc p) := (b1 w o).alloc (by simp) _
theorem b3 (w : World) (o p q : Obj) : Below w.heap.size w (((w.alloc o).alloc p).alloc q) := (b2 w o p).alloc (by simp <;> omega) _
theorem b4 (w : World) (o p q r : Obj) : Below w.heap.size w ((((w.alloc o).alloc p).alloc q).alloc r) := (b3 w o p q).alloc (by simp <;> omega) _
theorem b5 (w : World) (o p q r s : Obj) : Below w.heap.size w (((((w.alloc o).alloc p).alloc q).alloc r).alloc s) := (b4 w o p q r).alloc (by simp <;> omega) _

/-- Three points boxed one behind the other, from block n on. -/
def Box3 (w : World) (n : Nat) (ax ay bx b_y cx cy : Int) : Prop :=
  n + 1 + 1 < w.heap.size ∧ w.cell? ⟨n, 0, none⟩ = some (.int .i64 ax) ∧ w.cell? ⟨n, 1, none⟩ = some (.int .i64 ay) ∧ w.cell? ⟨n + 1, 0, none⟩ = some (.int .i64 bx) ∧
    w.cell? ⟨n + 1, 1, none⟩ = some (.int .i64 b_y) ∧ w.cell? ⟨n + 1 + 1, 0, none⟩ = some (.int .i64 cx) ∧ w.cell? ⟨n + 1 + 1, 1, none⟩ = some (.int .i64 cy)
theorem Box3.keep {W w1 : World} {n : Nat} {ax ay bx b_y cx cy : Int} (hb : Below W.heap.size W w1) (h : Box3 W n ax ay bx b_y cx cy) : Box3 w1 n ax ay bx b_y cx cy := by
  obtain ⟨hl, h0, h1, h2, h3, h4, h5⟩ := h
  have hs := hb.size
  refine ⟨by omega, (hb.cell (p := ⟨n, 0, none⟩) (by show n < _; omega)).trans h0, (hb.cell (p := ⟨n, 1, none⟩) (by show n < _; omega)).trans h1, (hb.cell (p := ⟨n + 1, 0, none⟩) (by show n + 1 < _; omega)).trans h2,
    (hb.cell (p := ⟨n + 1, 1, none⟩) (by show n + 1 < _; omega)).trans h3, (hb.cell (p := ⟨n + 1 + 1, 0, none⟩) (by show n + 1 + 1 < _; omega)).trans h4, (hb.cell (p := ⟨n + 1 + 1, 1, none⟩) (by show n + 1 + 1 < _; omega)).trans h5⟩
theorem Box3.cells {w : World} {n : Nat} {ax ay bx b_y cx cy : Int} (h : Box3 w n ax ay bx b_y cx cy) :
    w.cell? ⟨n, 0, none⟩ = some (.int .i64 ax) ∧ w.cell? ⟨n, 1, none⟩ = some (.int .i64 ay) ∧ w.cell? ⟨n + 1, 0, none⟩ = some (.int .i64 bx) ∧
    w.cell? ⟨n + 1, 1, none⟩ = some (.int .i64 b_y) ∧ w.cell? ⟨n + 1 + 1, 0, none⟩ = some (.int .i64 cx) ∧ w.cell? ⟨n + 1 + 1, 1, none⟩ = some (.int .i64 cy) := h.2
theorem Box3.new (w : World) (t : TypeId) (ax ay bx b_y cx cy : Int) :
    Box3 (((w.alloc (.cells #[.int .i64 ax, .int .i64 ay] t)).alloc (.cells #[.int .i64 bx, .int .i64 b_y] t)).alloc (.cells #[.int .i64 cx, .int .i64 cy] t)) w.heap.size ax ay bx b_y cx cy := by
  refine ⟨by simp, ?_, ?_, ?_, ?_, ?_, ?_⟩ <;> go_simp
theorem Box3.more {w : World} {n : Nat} {ax ay bx b_y cx cy : Int} (h : Box3 w n ax ay bx b_y cx cy) (o : Obj) : Box3 (w.alloc o) n ax ay bx b_y cx cy := h.keep (b1 w o)

def ok3 (ax ay bx b_y cx cy : Int) : Bool := okp ax ay && okp bx b_y && okp cx cy
theorem pall3 (ax ay bx b_y cx cy : Int) : pall 3 (fun i => [ax, bx, cx].getD i 0) (fun i => [ay, b_y, cy].getD i 0) = ok3 ax ay bx b_y cx cy := by
  simp [pall_succ, pall_zero, ok3, okp]
def ok4 (ax ay bx b_y cx cy px py : Int) : Bool := okp ax ay && okp bx b_y && okp cx cy && okp px py
theorem pall4 (ax ay bx b_y cx cy px py : Int) : pall 4 (fun i => [ax, bx, cx, px].getD i 0) (fun i => [ay, b_y, cy, py].getD i 0) = ok4 ax ay bx b_y cx cy px py := by
  simp [pall_succ, pall_zero, ok4, okp]

def crV (ax ay bx b_y cx cy : Int) : Int := if ok3 ax ay bx b_y cx cy then crI ax ay bx b_y cx cy else 0

/-- Right of three points that lie in a block. -/
theorem right3 (W : World) (b : Nat) (ax ay bx b_y cx cy : Int) (hb : b < W.heap.size)
    (h0 : W.cell? ⟨b, 0, none⟩ = some (.int .i64 ax)) (h1 : W.cell? ⟨b, 1, none⟩ = some (.int .i64 ay)) (h2 : W.cell? ⟨b, 2, none⟩ = some (.int .i64 bx))
    (h3 : W.cell? ⟨b, 3, none⟩ = some (.int .i64 b_y)) (h4 : W.cell? ⟨b, 4, none⟩ = some (.int .i64 cx)) (h5 : W.cell? ⟨b, 5, none⟩ = some (.int .i64 cy)) :
    Calls Try.prog 46 #[.slice (some ⟨b, 0, none⟩) 3 3] W fun e w' => e = .returned (.bool (ok3 ax ay bx b_y cx cy)) ∧ Below W.heap.size W w' := by
  rw [← pall3]
  refine right_any b 0 3 3 _ _ W (by omega) hb ?_ ?_
  · intro i hi
    match i, hi with
    | 0, _ => exact h0
    | 1, _ => exact h2
    | 2, _ => exact h4
  · intro i hi
    match i, hi with
    | 0, _ => exact h1
    | 1, _ => exact h3
    | 2, _ => exact h5
theorem right4 (W : World) (b : Nat) (ax ay bx b_y cx cy px py : Int) (hb : b < W.heap.size)
    (h0 : W.cell? ⟨b, 0, none⟩ = some (.int .i64 ax)) (h1 : W.cell? ⟨b, 1, none⟩ = some (.int .i64 ay)) (h2 : W.cell? ⟨b, 2, none⟩ = some (.int .i64 bx))
    (h3 : W.cell? ⟨b, 3, none⟩ = some (.int .i64 b_y)) (h4 : W.cell? ⟨b, 4, none⟩ = some (.int .i64 cx)) (h5 : W.cell? ⟨b, 5, none⟩ = some (.int .i64 cy))
    (h6 : W.cell? ⟨b, 6, none⟩ = some (.int .i64 px)) (h7 : W.cell? ⟨b, 7, none⟩ = some (.int .i64 py)) :
    Calls Try.prog 46 #[.slice (some ⟨b, 0, none⟩) 4 4] W fun e w' => e = .returned (.bool (ok4 ax ay bx b_y cx cy px py)) ∧ Below W.heap.size W w' := by
  rw [← pall4]
  refine right_any b 0 4 4 _ _ W (by omega) hb ?_ ?_
  · intro i hi
    match i, hi with
    | 0, _ => exact h0
    | 1, _ => exact h2
    | 2, _ => exact h4
    | 3, _ => exact h6
  · intro i hi
    match i, hi with
    | 0, _ => exact h1
    | 1, _ => exact h3
    | 2, _ => exact h5
    | 3, _ => exact h7

theorem crI_parts (ax ay bx b_y cx cy : Int) (h : ok3 ax ay bx b_y cx cy = true) :
    (-33554432 ≤ bx - ax ∧ bx - ax ≤ 33554432) ∧ (-33554432 ≤ cy - ay ∧ cy - ay ≤ 33554432) ∧ (-33554432 ≤ b_y - ay ∧ b_y - ay ≤ 33554432) ∧ (-33554432 ≤ cx - ax ∧ cx - ax ≤ 33554432) := by
  simp only [ok3, Bool.and_eq_true] at h
  have := okp_yes h.1.1; have := okp_yes h.1.2; have := okp_yes h.2
  omega
theorem mul_in (a b M N : Int) (h1 : -M ≤ a ∧ a ≤ M) (h2 : -N ≤ b ∧ b ≤ N) : -(M * N) ≤ a * b ∧ a * b ≤ M * N := by
  have hM : 0 ≤ M := by omega
  have hN : 0 ≤ N := by omega
  have h : (a * b).natAbs ≤ M.natAbs * N.natAbs := by
    rw [Int.natAbs_mul]
    exact Nat.mul_le_mul (by omega) (by omega)
  have h' : ((a * b).natAbs : Int) ≤ M * N := by
    have := Int.ofNat_le.2 h
    rw [Int.natCast_mul, Int.natAbs_of_nonneg hM, Int.natAbs_of_nonneg hN] at this
    exact this
  omega

/-- The document's doubled area. -/
def rcI (ax ay bx b_y cx cy : Int) : Int := ax * b_y - bx * ay + bx * cy - cx * b_y + cx * ay - ax * cy
theorem rcI_eq (ax ay bx b_y cx cy : Int) : rcI ax ay bx b_y cx cy = crI ax ay bx b_y cx cy := by
  unfold rcI crI
  simp only [Int.sub_mul, Int.mul_sub]
  have e1 : ax * ay = ay * ax := Int.mul_comm _ _
  have e2 : bx * ay = ay * bx := Int.mul_comm _ _
  have e3 : cx * b_y = b_y * cx := Int.mul_comm _ _
  have e4 : cx * ay = ay * cx := Int.mul_comm _ _
  have e5 : ax * b_y = b_y * ax := Int.mul_comm _ _
  omega

end Go.Proofs.Ytenfaejdnphngaa
