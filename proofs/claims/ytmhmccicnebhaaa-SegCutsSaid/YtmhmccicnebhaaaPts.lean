/- Rows of points that a call owns: their cells, and what a sort makes of them. -/
import Derived.Test.YtmhmccicnebhaaaOwnRow
import Derived.Test.YtmhmccicnebhaaaGone
import Derived.Laws.AppendOwn
namespace Go.Proofs.Ytmhmccicnebhaaa
open Go.RowKit Go.Sort Go.Shelf Go.Lib

/-- The numbers of points, one behind the other. -/
def cells (L : List (Int × Int)) : List Value := L.flatMap fun p => [.int .i64 p.1, .int .i64 p.2]
theorem cells_nil : cells [] = [] := rfl
theorem cells_cons (p : Int × Int) (L : List (Int × Int)) : cells (p :: L) = .int .i64 p.1 :: .int .i64 p.2 :: cells L := rfl
theorem cells_append (L M : List (Int × Int)) : cells (L ++ M) = cells L ++ cells M := by simp [cells]
theorem cells_one (p : Int × Int) : cells [p] = [.int .i64 p.1, .int .i64 p.2] := rfl
theorem cells_len : ∀ L : List (Int × Int), (cells L).length = L.length * 2
  | [] => rfl
  | p :: L => by rw [cells_cons, List.length_cons, List.length_cons, cells_len L, List.length_cons]; omega
theorem cells_at : ∀ (L : List (Int × Int)) (i : Nat) (h : i < L.length), (cells L)[i * 2]? = some (.int .i64 L[i].1) ∧ (cells L)[i * 2 + 1]? = some (.int .i64 L[i].2)
  | [], i, h => absurd h (by simp)
  | p :: L, 0, _ => ⟨rfl, rfl⟩
  | p :: L, i + 1, h => by
    have := cells_at L i (by simpa using h)
    rw [cells_cons, show (i + 1) * 2 = i * 2 + 1 + 1 from by omega]
    exact this

/-- What a row of points holds, cell by cell. -/
theorem own_cells {W : World} {base : Nat} {T : TypeId} {v : Value} {L : List (Int × Int)} (h : W.ownsRow base T 2 v L.length (cells L)) (hn : L ≠ []) :
    ∃ g cap, v = .slice (some ⟨g, 0, none⟩) L.length cap ∧ base ≤ g ∧ g < W.heap.size ∧ L.length ≤ cap ∧ cap ≤ maxLen ∧ ∀ i (hi : i < L.length), W.cell? ⟨g, i * 2, none⟩ = some (.int .i64 L[i].1) ∧ W.cell? ⟨g, i * 2 + 1, none⟩ = some (.int .i64 L[i].2) := by
  obtain ⟨h0, h1⟩ := h
  rcases h1 with ⟨_, h1⟩ | ⟨g, cap, cur, hv, hg, hc, hl, hm, hz, ht⟩
  · exact absurd (List.eq_nil_of_length_eq_zero h1) hn
  · refine ⟨g, cap, hv, hg, ?_, hl, hm, fun i hi => ?_⟩
    · rcases Nat.lt_or_ge g W.heap.size with k | k
      · exact k
      · rw [Array.getElem?_eq_none (by simpa using k)] at hc; cases hc
    · have cell : ∀ (o : Nat) (x : Value), o < L.length * 2 → (cells L)[o]? = some x → W.cell? ⟨g, o, none⟩ = some x := by
        intro o x ho hx
        rw [← ht, List.getElem?_take_of_lt ho] at hx
        have hx' : cur[o]? = some x := by rw [← Array.getElem?_toList]; exact hx
        simp [World.cell?, hc, hx']
      exact ⟨cell _ _ (by omega) (cells_at L i hi).1, cell _ _ (by omega) (cells_at L i hi).2⟩
theorem own_nil {W : World} {base : Nat} {T : TypeId} {v : Value} (h : W.ownsRow base T 2 v 0 (cells [])) : ∃ (p : Option Addr) (cap : Nat), v = .slice p 0 cap := by
  rcases h.2 with ⟨rfl, _⟩ | ⟨g, cap, cur, rfl, _⟩
  · exact ⟨_, _, rfl⟩
  · exact ⟨_, _, rfl⟩

theorem flat_cells (d : Array PB) : (flatK encB 2 d).toList = cells (d.toList.map (·.1)) := by
  apply List.ext_getElem?
  intro t
  by_cases ht : t < d.size * 2
  · have e : t / 2 < d.size := by omega
    have c := cells_at (d.toList.map (·.1)) (t / 2) (by simpa using e)
    have hg : (flatK encB 2 d)[t]! = (encB d[t / 2]!)[t % 2]! := get_flatK _ _ _ _ ht
    have hs : t < (flatK encB 2 d).size := by rw [size_flatK]; exact ht
    rw [getElem!_pos _ t hs] at hg
    rw [Array.getElem?_toList, Array.getElem?_eq_getElem hs, hg, getElem!_pos d (t / 2) e]
    rcases Nat.mod_two_eq_zero_or_one t with m | m
    · have e2 : t = t / 2 * 2 := by omega
      rw [m]
      conv => rhs; rw [e2]
      rw [c.1]
      simp [encB]
    · have e2 : t = t / 2 * 2 + 1 := by omega
      rw [m]
      conv => rhs; rw [e2]
      rw [c.2]
      simp [encB]
  · rw [List.getElem?_eq_none (by simp; omega), List.getElem?_eq_none (by rw [cells_len]; simp; omega)]

theorem own_holds {W : World} {base : Nat} {T : TypeId} {g cap : Nat} {d : Array PB} (h : W.ownsRow base T 2 (.slice (some ⟨g, 0, none⟩) d.size cap) d.size (cells (d.toList.map (·.1)))) : HoldsK encB 2 W g 0 d := by
  intro j hj
  rw [size_flatK] at hj
  rcases h.2 with ⟨e0, _⟩ | ⟨g', cap', cur, e0, hb, hg, hn, hm, hs, ht⟩
  · cases e0
  · injection e0 with e1 _ e3
    injection e1 with e1
    injection e1 with e1
    subst e1; subst e3
    have hj2 : j < (flatK encB 2 d).size := by rw [size_flatK]; exact hj
    refine ⟨?_, by simp [World.frozen?, hg]⟩
    have e1 : cur.toList[j]? = (flatK encB 2 d).toList[j]? := by
      rw [flat_cells, ← ht, List.getElem?_take_of_lt hj]
    rw [Array.getElem?_toList, Array.getElem?_toList, Array.getElem?_eq_getElem hj2] at e1
    simp only [World.cell?, hg, Nat.zero_add, Option.isSome_none, Bool.false_eq_true, if_false]
    rw [e1, getElem!_pos _ j hj2]
    rfl

/-- Behind the sort. -/
theorem own_sorted {W : World} {base : Nat} {T : TypeId} {g cap q : Nat} {n : Nat} {xs : List Value} {d : Array PB} (os : Array Obj) (h : W.ownsRow base T 2 (.slice (some ⟨g, 0, none⟩) n cap) n xs) (hd : d.size = n) :
    (sortWorldK encB 2 W g 0 q d os).ownsRow base T 2 (.slice (some ⟨g, 0, none⟩) n cap) n (cells (d.toList.map (·.1))) := by
  rcases h.2 with ⟨e0, _⟩ | ⟨g', cap', cur, e0, hb, hg, hn, hm, hs, ht⟩
  · cases e0
  · injection e0 with e1 _ e3
    injection e1 with e1
    injection e1 with e1
    subst e1; subst e3
    have hgl : g < W.heap.size := by
      rcases Nat.lt_or_ge g W.heap.size with k | k
      · exact k
      · rw [Array.getElem?_eq_none (by simpa using k)] at hg; cases hg
    refine ⟨by rw [cells_len]; simp [hd], .inr ⟨g, cap, putCells id 0 (flatK encB 2 d) cur, rfl, hb, ?_, hn, hm, by simpa [putCells] using hs, ?_⟩⟩
    · unfold sortWorldK
      rw [heap_grow_old _ _ (by rw [size_putRowK]; exact hgl)]
      simp [putRowK, putRow, mapBlock, Sort.ahead, Array.getElem?_modify, hg, onCells]
    · rw [← flat_cells]
      apply List.ext_getElem?
      intro j
      rw [List.getElem?_take, Array.getElem?_toList, Array.getElem?_toList]
      by_cases hj : j < n * 2
      · have hjc : j < cur.size := by omega
        have hj2 : j < (flatK encB 2 d).size := by rw [size_flatK, hd]; exact hj
        rw [if_pos hj, Array.getElem?_eq_getElem hj2]
        simp only [putCells, Array.getElem?_mapIdx, Array.getElem?_eq_getElem hjc, Option.map_some]
        rw [if_pos ⟨by omega, by omega⟩, Nat.sub_zero, getElem!_pos _ j hj2]
        rfl
      · rw [if_neg hj, Array.getElem?_eq_none (by rw [size_flatK, hd]; omega)]
theorem below_sorted {B : Nat} {w0 w : World} {g q : Nat} {d : Array PB} (os : Array Obj) (h : Below B w0 w) (hg : B ≤ g) (hB : B ≤ w.heap.size) : Below B w0 (sortWorldK encB 2 w g 0 q d os) := by
  refine ⟨h.os, h.tape, h.output, ?_, fun k hk => ?_⟩
  · have := h.size
    unfold sortWorldK
    rw [size_grow, size_putRowK]
    show _ ≤ w.heap.size + _
    omega
  · rw [← h.block k hk]
    unfold sortWorldK
    rw [heap_grow_old _ _ (by rw [size_putRowK]; show k < w.heap.size; omega)]
    simp [putRowK, putRow, mapBlock, Sort.ahead, Array.getElem?_modify, show g ≠ k by omega]
end Go.Proofs.Ytmhmccicnebhaaa
