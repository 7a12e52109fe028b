/- A point in a block of the call's own: what becomes of it. -/
import Derived.Test.YtenfaejdnphngaaKeep
namespace Go.Proofs.Ytenfaejdnphngaa
open Go.RowKit

def Ow (W : World) (B k : Nat) (x y : Int) : Prop :=
  B ≤ k ∧ W.cell? ⟨k, 0, none⟩ = some (.int .i64 x) ∧ W.cell? ⟨k, 1, none⟩ = some (.int .i64 y) ∧ W.frozen? ⟨k, 0, none⟩ = false ∧ W.frozen? ⟨k, 1, none⟩ = false
theorem Ow.lt {W : World} {B k : Nat} {x y : Int} (h : Ow W B k x y) : k < W.heap.size := World.block_lt_of_cell? W ⟨k, 0, none⟩ h.2.1
theorem Ow.keep {W w1 : World} {B k : Nat} {x y : Int} (hw : Below W.heap.size W w1) (h : Ow W B k x y) : Ow w1 B k x y :=
  ⟨h.1, cell_later hw h.2.1, cell_later hw h.2.2.1, (hw.frozen (p := ⟨k, 0, none⟩) h.lt).trans h.2.2.2.1, (hw.frozen (p := ⟨k, 1, none⟩) h.lt).trans h.2.2.2.2⟩
theorem Ow.drew {W : World} {B k : Nat} {x y : Int} (h : Ow W B k x y) : Ow W.drew B k x y := h
theorem Ow.new (W : World) (B : Nat) (t : TypeId) (x y : Int) (hB : B ≤ W.heap.size) : Ow (W.alloc (.cells #[.int .i64 x, .int .i64 y] t)) B W.heap.size x y := by
  refine ⟨hB, ?_, ?_, ?_, ?_⟩ <;> go_simp
theorem Ow.put {W : World} {B k : Nat} {x y : Int} (u v : Int) (h : Ow W B k x y) : Ow (Put W k u v) B k u v := by
  obtain ⟨hl, h0, h1, h2, h3⟩ := h
  have h1' : (W.setCell ⟨k, 0, none⟩ (.int .i64 u)).cell? ⟨k, 1, none⟩ = some (.int .i64 y) := by
    rw [World.cell?_setCell_other _ _ _ _ (by intro e; injection e with _ e2; cases e2)]; exact h1
  refine ⟨hl, ?_, ?_, (Put.frozen _ _ _ _ _).trans h2, (Put.frozen _ _ _ _ _).trans h3⟩
  · unfold Put
    rw [World.cell?_setCell_other _ _ _ _ (by intro e; injection e with _ e2; cases e2), World.cell?_setCell_same _ _ _ h0]
  · unfold Put
    rw [World.cell?_setCell_same _ _ _ h1']
theorem Ow.other {W : World} {B k j : Nat} {x y : Int} (u v : Int) (h : Ow W B k x y) (hj : k ≠ j) : Ow (Put W j u v) B k x y :=
  ⟨h.1, (Put.other _ _ _ _ hj).trans h.2.1, (Put.other _ _ _ _ hj).trans h.2.2.1, (Put.frozen _ _ _ _ _).trans h.2.2.2.1, (Put.frozen _ _ _ _ _).trans h.2.2.2.2⟩

/-- The least, and the greatest, of the numbers from place 0 to place k. -/
def mnF (f : Nat → Int) : Nat → Int
  | 0 => f 0
  | k + 1 => min (mnF f k) (f (k + 1))
def mxF (f : Nat → Int) : Nat → Int
  | 0 => f 0
  | k + 1 => max (mxF f k) (f (k + 1))
theorem mnF_le (f : Nat → Int) : ∀ (k i : Nat), i ≤ k → mnF f k ≤ f i
  | 0, i, h => by obtain rfl : i = 0 := by omega
                  exact Int.le_refl _
  | k + 1, i, h => by
    unfold mnF
    by_cases e : i = k + 1
    · subst e; omega
    · have := mnF_le f k i (by omega); omega
theorem mxF_le (f : Nat → Int) : ∀ (k i : Nat), i ≤ k → f i ≤ mxF f k
  | 0, i, h => by obtain rfl : i = 0 := by omega
                  exact Int.le_refl _
  | k + 1, i, h => by
    unfold mxF
    by_cases e : i = k + 1
    · subst e; omega
    · have := mxF_le f k i (by omega); omega
theorem mnF_is (f : Nat → Int) : ∀ k : Nat, ∃ i, i ≤ k ∧ f i = mnF f k
  | 0 => ⟨0, Nat.le_refl _, rfl⟩
  | k + 1 => by
    obtain ⟨i, hi, e⟩ := mnF_is f k
    unfold mnF
    by_cases h : mnF f k ≤ f (k + 1)
    · exact ⟨i, by omega, by omega⟩
    · exact ⟨k + 1, by omega, by omega⟩
theorem mxF_is (f : Nat → Int) : ∀ k : Nat, ∃ i, i ≤ k ∧ f i = mxF f k
  | 0 => ⟨0, Nat.le_refl _, rfl⟩
  | k + 1 => by
    obtain ⟨i, hi, e⟩ := mxF_is f k
    unfold mxF
    by_cases h : f (k + 1) ≤ mxF f k
    · exact ⟨i, by omega, by omega⟩
    · exact ⟨k + 1, by omega, by omega⟩
end Go.Proofs.Ytenfaejdnphngaa
