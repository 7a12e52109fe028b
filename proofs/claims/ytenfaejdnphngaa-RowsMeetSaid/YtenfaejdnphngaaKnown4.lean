/- Layer 4's examples: the law's known answers true. -/
import Derived.Test.YtenfaejdnphngaaRowsI
import Derived.Test.YtenfaejdnphngaaStrips
namespace Go.Proofs.Ytenfaejdnphngaa
open Go.RowKit Go.Sort Go.Deep

def knR : List (List Int) := [[2], [1, 9], [1], []]
theorem knR_srt : srt (rlt knR) (nums 4) = [3, 2, 1, 0] := by
  refine rows_eq knR 4 (by decide) ?_
  unfold srtd
  decide
theorem il_two (W : World) (T : TypeId) (x y : Int) : IL (W.alloc (.cells #[.int .i64 x, .int .i64 y] T)) (W.alloc (.cells #[.int .i64 x, .int .i64 y] T)).heap.size (.slice (some ⟨W.heap.size, 0, none⟩) 2 2) [x, y] := by
  refine ⟨_, 2, rfl, by simp, fun i hi => ⟨_, 0, rfl, by rw [World.size_alloc]; omega, ?_⟩⟩
  match i, hi with
  | 0, _ => go_simp
  | 1, _ => go_simp
theorem il_one (W : World) (T : TypeId) (x : Int) : IL (W.alloc (.cells #[.int .i64 x] T)) (W.alloc (.cells #[.int .i64 x] T)).heap.size (.slice (some ⟨W.heap.size, 0, none⟩) 1 1) [x] := by
  refine ⟨_, 1, rfl, by simp, fun i hi => ⟨_, 0, rfl, by rw [World.size_alloc]; omega, ?_⟩⟩
  match i, hi with
  | 0, _ => go_simp
def knW1 (W : World) : World := W.alloc (.cells #[.int .i64 2] 3)
def knW2 (W : World) : World := (knW1 W).alloc (.cells #[.int .i64 1, .int .i64 9] 3)
def knW3 (W : World) : World := (knW2 W).alloc (.cells #[.int .i64 1] 3)
theorem kn_rl (w W0 W : World) (hW0 : W0 = knW3 w) (g : Nat) (hb : Below W0.heap.size W0 W)
    (c0 : W.cell? ⟨g, 0, none⟩ = some (.slice (some ⟨w.heap.size, 0, none⟩) 1 1)) (c1 : W.cell? ⟨g, 1, none⟩ = some (.slice (some ⟨w.heap.size + 1, 0, none⟩) 2 2))
    (c2 : W.cell? ⟨g, 2, none⟩ = some (.slice (some ⟨w.heap.size + 2, 0, none⟩) 1 1)) (c3 : W.cell? ⟨g, 3, none⟩ = some (.slice none 0 0)) : RL W (.slice (some ⟨g, 0, none⟩) 4 4) knR := by
  have i1 := il_one w 3 2
  have i2 := il_two (knW1 w) 3 1 9
  have i3 := il_one (knW2 w) 3 1
  have b2 : Below (knW1 w).heap.size (knW1 w) (knW2 w) := below_alloc _ _
  have b3 : Below (knW2 w).heap.size (knW2 w) (knW3 w) := below_alloc _ _
  subst hW0
  have j1 := ((IL.keep b2 i1).keep b3).keep hb
  have j2 := (IL.keep b3 i2).keep hb
  have j3 := IL.keep hb i3
  rw [show (knW1 w).heap.size = w.heap.size + 1 from by unfold knW1; rw [World.size_alloc]] at j2
  rw [show (knW2 w).heap.size = w.heap.size + 2 from by unfold knW2 knW1; rw [World.size_alloc, World.size_alloc]] at j3
  refine ⟨_, 4, rfl, by decide, fun i hi => ?_⟩
  match i, hi with
  | 0, _ => exact ⟨g, 0, _, rfl, by simpa using c0, j1⟩
  | 1, _ => exact ⟨g, 0, _, rfl, by simpa using c1, j2⟩
  | 2, _ => exact ⟨g, 0, _, rfl, by simpa using c2, j3⟩
  | 3, _ => exact ⟨g, 0, _, rfl, by simpa using c3, IL.nil _ _ _ _⟩
def KnPost (w : World) (e : Ending) (w' : World) : Prop := e = .returned (.bool true) ∧ Below w.heap.size w w'
theorem bs_first {L : List Int} {x : Int} {i : Nat} (h : BsP L x i i) {k : Nat} (hk : k ≤ L.length) (hi : i ≤ L.length) (h1 : ∀ j (h : j < L.length), j < k → L[j] < x) (h2 : ∀ j (h : j < L.length), j = k → ¬ L[j] < x) : i = k := by
  rcases Nat.lt_trichotomy i k with h3 | h3 | h3
  · exact absurd (h1 i (by omega) h3) (h.2 i (by omega) (Nat.le_refl _))
  · exact h3
  · exact absurd (h.1 k (by omega) h3) (h2 k (by omega) rfl)
theorem se_first {p : Nat → Bool} {n j k : Nat} (h : SeP p n j j) (hk : k ≤ n) (hj : j ≤ n) (h1 : ∀ i, i < k → p i = false) (h2 : k < n → p k = true) : j = k := by
  rcases Nat.lt_trichotomy j k with h3 | h3 | h3
  · have a := h1 j h3
    rw [h.2 j (by omega) (Nat.le_refl _)] at a; cases a
  · exact h3
  · have a := h.1 k h3
    rw [h2 (by omega)] at a; cases a
theorem se_zero {p : Nat → Bool} (h : p 0 = false) : ∀ i, i < 1 → p i = false := fun i hi => by
  obtain rfl : i = 0 := Nat.lt_one_iff.1 hi
  exact h
end Go.Proofs.Ytenfaejdnphngaa
