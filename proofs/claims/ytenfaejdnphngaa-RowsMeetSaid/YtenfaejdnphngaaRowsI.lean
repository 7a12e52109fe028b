/- The walk of order.Rows: the numbers of rows in order. -/
import Derived.Test.YtenfaejdnphngaaCmp
import Derived.Test.YtenfaejdnphngaaSorted
import Derived.Deep.OwnRows
namespace Go.Proofs.Ytenfaejdnphngaa
open Go.RowKit Go.Sort Go.Deep

/-- A slice of slices of numbers. -/
def RL (W : World) (v : Value) (R : List (List Int)) : Prop :=
  ∃ q c, v = .slice q R.length c ∧ R.length ≤ c ∧ ∀ i (h : i < R.length), ∃ g o e, q = some ⟨g, o, none⟩ ∧ W.cell? ⟨g, o + i, none⟩ = some e ∧ IL W W.heap.size e R[i]
theorem RL.keep {W w1 : World} {v : Value} {R : List (List Int)} (hb : Below W.heap.size W w1) (h : RL W v R) : RL w1 v R := by
  obtain ⟨q, c, rfl, hc, h⟩ := h
  refine ⟨q, c, rfl, hc, fun i hi => ?_⟩
  obtain ⟨g, o, e, hq, h1, h2⟩ := h i hi
  exact ⟨g, o, e, hq, cell_later hb h1, h2.keep hb⟩
theorem RL.at {W : World} {q : Option Addr} {n c : Nat} {R : List (List Int)} (h : RL W (.slice q n c) R) {i : Nat} (hi : i < R.length) : ∃ g o e, q = some ⟨g, o, none⟩ ∧ W.cell? ⟨g, o + i, none⟩ = some e ∧ IL W W.heap.size e R[i] := by
  obtain ⟨q1, c1, e, _, h⟩ := h
  cases e
  exact h i hi
theorem rowAt_at {R : List (List Int)} {i : Nat} (h : i < R.length) : rowAt R (i : Int) = R[i] := by
  unfold rowAt
  rw [List.getD_eq_getElem?_getD, Int.toNat_natCast, List.getElem?_eq_getElem h]; rfl
theorem run_make_nn (n : Nat) (hn : n ≤ 1000000) (w : World) : (Instr.makeSlice 48 (.int .i64 (n : Int)) (.int .i64 (n : Int))).run Try.prog w = .ok (.slice (some ⟨w.heap.size, 0, none⟩) n n) (w.alloc (.cells (madeCells #[.int .i64 0] n) 3)) := by
  obtain ⟨i0, hi, hz0, hz1, hz2⟩ := info_parts infoI
  have h := run_make (P := Try.prog) w 48 3 i0 (.int .i64 0) Try.underlying48 hi hz0 .i64 .i64 (n : Int) (n : Int) (by omega) (Int.le_refl _) (by rw [hz2]; omega) (by omega)
  rw [hz1] at h
  simpa [Value.cells] using h
def RowsPost (R : List (List Int)) (w : World) (e : Ending) (w' : World) : Prop :=
  ∃ u, e = .returned u ∧ w'.ownsRow w.heap.size 3 1 u R.length (icells (srt (rlt R) (nums R.length))) ∧ Below w.heap.size w w'
/-- While the numbers are written. -/
structure NumW (w W : World) (v : Value) (n i : Nat) : Prop where
  row : W.rowIs (w.heap.size + 1) 3 n (fun j => .int .i64 (if j < i then (j : Int) else 0))
  box : W.cell? ⟨w.heap.size, 0, none⟩ = some v
  below : Below w.heap.size w W
theorem NumW.put {w W : World} {v : Value} {n i : Nat} (h : NumW w W v n i) : NumW w (W.setCell ⟨w.heap.size + 1, i, none⟩ (.int .i64 (i : Int))) v n (i + 1) := by
  refine ⟨(h.row.set i _).congr (fun j hj => ?_), ?_, h.below.setCell (p := ⟨w.heap.size + 1, i, none⟩) (by simp) _⟩
  · by_cases e : j = i
    · subst e; simp
    · rw [if_neg e]
      by_cases k : j < i
      · rw [if_pos k, if_pos (by omega)]
      · rw [if_neg k, if_neg (by omega)]
  · rw [World.cell?_setCell_other _ _ _ _ (by intro e; injection e with e1; simp at e1)]; exact h.box
theorem NumW.il {w W : World} {v : Value} {n : Nat} (h : NumW w W v n n) : IL W W.heap.size (.slice (some ⟨w.heap.size + 1, 0, none⟩) n n) (nums n) := by
  refine ⟨_, n, by rw [nums_len], by rw [nums_len]; exact Nat.le_refl _, fun i hi => ⟨_, 0, rfl, ?_, ?_⟩⟩
  · have := h.row.lt; omega
  · rw [nums_at, Nat.zero_add, h.row.cell (by rw [nums_len] at hi; exact hi), if_pos (by rw [nums_len] at hi; exact hi)]
end Go.Proofs.Ytenfaejdnphngaa
