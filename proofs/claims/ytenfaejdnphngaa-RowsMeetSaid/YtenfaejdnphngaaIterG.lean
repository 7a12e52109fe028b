/- A range over a map with [2]int keys. -/
import Derived.Test.YtenfaejdnphngaaMapG
import Derived.Maps.RangeRun
namespace Go.Proofs.Ytenfaejdnphngaa
open Go.RowKit
open Go.ChangeMaps (setBlock)

/-- The loop's own block, once these entries have come. -/
def ItG (V : World) (r mb c : Nat) (vis : List EnG) : Prop := V.heap[r]? = some (.mapIter (some mb) c (vis.map (fun p => p.2.2)).toArray c)
theorem ItG.of {V V1 : World} {r mb c : Nat} {vis : List EnG} (h : ItG V r mb c vis) (e : V1.heap[r]? = V.heap[r]?) : ItG V1 r mb c vis := e.trans h
theorem run_rangeG {mt kt et : TypeId} (um : Try.prog.underlying mt = some (.map kt et)) {V : World} {mb c : Nat} {ps : List EnG} (h : MapG V mb ps c) :
    ∃ V1, (Instr.range mt (.map (some mb))).run Try.prog V = .ok (.pointer (some ⟨V.heap.size, 0, none⟩)) V1 ∧ ItG V1 V.heap.size mb c [] ∧ Below V.heap.size V V1 ∧ V1.heap.size = V.heap.size + 1 := by
  obtain ⟨xs, hb, he⟩ := h.blk
  exact ⟨_, run_range_map V mt kt et mb xs c um hb, heap_alloc_new V _, below_alloc _ _, by simp⟩
theorem run_nextG {V : World} {r mb c : Nat} {ps vis : List EnG} (h : MapG V mb ps c) (hi : ItG V r mb c vis) (ty : TypeId) :
    ((∀ p ∈ ps, ∃ q ∈ vis, q.2.2 = p.2.2) ∧ (Instr.next (.pointer (some ⟨r, 0, none⟩)) false ty).run Try.prog V = .ok (.tuple #[.bool false]) V) ∨
    ∃ p ∈ ps, (∀ q ∈ vis, q.2.2 ≠ p.2.2) ∧ ∃ w1 : World, (w1 = V ∨ w1 = V.drew) ∧ (Instr.next (.pointer (some ⟨r, 0, none⟩)) false ty).run Try.prog V = .ok (.tuple #[.bool true, enc2 p.1, p.2.1]) (setBlock w1 r (.mapIter (some mb) c ((vis ++ [p]).map (fun p => p.2.2)).toArray c)) := by
  obtain ⟨xs, hb, he⟩ := h.blk
  have hmem : ∀ x, x ∈ xs.toList ↔ ∃ p ∈ ps, entG p = x := fun x => by rw [he]; simp
  have hold : ∀ x ∈ xs.toList, x.born < c := fun x hx => by
    obtain ⟨p, hp, rfl⟩ := (hmem x).1 hx
    exact h.lt p hp
  rcases run_next_at (P := Try.prog) V ty r mb c c _ xs c hi hb hold (Nat.le_refl _) with ⟨h0, hr⟩ | ⟨x, hx, w1, hw, hr⟩
  · refine .inl ⟨fun p hp => ?_, hr⟩
    have hx : entG p ∈ xs.toList := (hmem _).2 ⟨p, hp, rfl⟩
    by_cases hc : ∃ q ∈ vis, q.2.2 = p.2.2
    · exact hc
    · exfalso
      have hin : entG p ∈ (leftOf xs (vis.map (fun p => p.2.2)).toArray).toList := by
        unfold leftOf
        simp only [Array.toList_filter, List.mem_filter]
        refine ⟨hx, ?_⟩
        simp only [List.contains_toArray, Bool.not_eq_true']
        rw [List.contains_eq_any_beq, List.any_eq_false]
        intro z hz
        obtain ⟨q, hq, rfl⟩ := List.mem_map.1 hz
        simp only [beq_iff_eq]
        exact fun e => hc ⟨q, hq, e.symm⟩
      have := List.length_pos_of_mem hin
      rw [Array.length_toList] at this
      omega
  · unfold leftOf at hx
    simp only [Array.toList_filter, List.mem_filter] at hx
    obtain ⟨hx, hs⟩ := hx
    obtain ⟨p, hp, rfl⟩ := (hmem x).1 hx
    refine .inr ⟨p, hp, fun q hq e => ?_, w1, hw, ?_⟩
    · simp only [List.contains_toArray, Bool.not_eq_true'] at hs
      rw [List.contains_eq_any_beq, List.any_eq_false] at hs
      exact hs q.2.2 (List.mem_map.2 ⟨q, hq, rfl⟩) (by simp only [beq_iff_eq]; exact e.symm)
    · rw [hr, List.map_append, List.map_singleton]
      simp [entG]
theorem run_entryIt {V : World} {r mb c : Nat} {ps vis : List EnG} {p : EnG} (h : MapG V mb ps c) (hp : p ∈ ps) (hi : ItG V r mb c (vis ++ [p])) :
    (Instr.entry (.pointer (some ⟨r, 0, none⟩))).run Try.prog V = .ok (.tuple #[enc2 p.1, p.2.1]) V := by
  obtain ⟨xs, hb, he⟩ := h.blk
  have hx : entG p ∈ xs.toList := by rw [he]; exact List.mem_map.2 ⟨p, hp, rfl⟩
  have hi2 : V.heap[r]? = some (.mapIter (some mb) c ((vis.map (fun p => p.2.2)).toArray.push (entG p).born) c) := by
    rw [show V.heap[r]? = _ from hi, List.map_append, List.map_singleton]
    simp [entG]
  have hn : (xs.toList.map (·.born)).Nodup := by
    rw [he, List.map_map]
    exact h.bd
  exact run_entry_at V r mb c _ xs c (entG p) hi2 hb hx hn
end Go.Proofs.Ytenfaejdnphngaa
