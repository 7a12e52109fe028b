/- Arguments that are slices of entries. -/
import Derived.Test.YtbdmmgplpndobaaOpenRows
import Derived.Test.YtbdmmgplpndobaaOpenE
import Derived.Test.YtbdmmgplpndobaaHeapU
import Derived.Deep.Strs
namespace Go.Proofs.Ytbdmmgplpndobaa
open Go.ChangeShapes Go.WideShapes Go.ChangeAt Go.RowKit Go.Joins Go.Deep

set_option maxRecDepth 100000 in
theorem open_ei {H : Type} {enc : TypeId × Value → H} {W : World} {base b0 : Nat} {spare : Nat → Bool} {held : Bool} {r : Reach} {v : Value} {d : DataW H} {p : List MemPlace}
    (hv : Value.okWide Try.prog W r b0 39 v) (h : DataW.Trod enc Try.prog W base spare held 39 v d p) :
    ∃ L : List E3, EI W W.heap.size W.heap.size W.heap.size v L := by
  obtain ⟨a0, len0, cap0, rfl⟩ := okWide_slice Try.underlying39 hv
  obtain ⟨fuel, hf⟩ := h
  obtain ⟨q, len, cap, hcs, hl, hm, hr⟩ := open_cells Try.underlying39 3 Try.cells31 (by omega) hf
  simp [Value.cells] at hcs
  obtain ⟨rfl, rfl, rfl⟩ := hcs
  rcases hr with rfl | ⟨b, off, rfl, hb, hr⟩
  · exact ⟨[], _, _, rfl, Nat.zero_le _, fun i hi => absurd hi (by simp)⟩
  · have each : ∀ i, i < len0 → ∃ (q : E3), W.cell? ⟨b, off + i * 3, none⟩ = some (.int .i64 q.1) ∧ W.cell? ⟨b, off + i * 3 + 1, none⟩ = some (.int .i64 q.2.1) ∧ W.cell? ⟨b, off + i * 3 + 2, none⟩ = some (.int .i64 q.2.2) := by
      intro i hi
      obtain ⟨cs', n, D, p, hlen, hc, ht⟩ := hr i hi
      obtain ⟨y0, y1, y2, n', _, _, t0, t1, t2⟩ := trod_struct3 Try.underlying31 ht
      match cs', hlen with
      | [e0, e1, e2], _ =>
        obtain ⟨x, ex, _, _⟩ := DataW.trod_int Try.underlying3 t0
        obtain ⟨y, ey, _, _⟩ := DataW.trod_int Try.underlying3 t1
        obtain ⟨z, ez, _, _⟩ := DataW.trod_int Try.underlying3 t2
        have ex' : e0 = .int .i64 x := by simpa [show Try.prog.cellsOf 3 = 1 from Try.cells3] using ex
        have ey' : e1 = .int .i64 y := by simpa [show Try.prog.cellsOf 3 = 1 from Try.cells3] using ey
        have ez' : e2 = .int .i64 z := by simpa [show Try.prog.cellsOf 3 = 1 from Try.cells3] using ez
        subst ex' ey' ez'
        exact ⟨(x, y, z), by simpa using hc 0 _ rfl, by simpa using hc 1 _ rfl, by simpa using hc 2 _ rfl⟩
    refine ⟨(List.range len0).map fun i => if h : i < len0 then (each i h).choose else (0, 0, 0), some ⟨b, off, none⟩, cap0, by simp, by simpa using hl, fun i hi' => ?_⟩
    have hlt : i < len0 := by simpa using hi'
    have hs := (each i hlt).choose_spec
    refine ⟨b, off, rfl, by omega, by omega, by omega, ?_⟩
    simp only [List.getElem_map, List.getElem_range, dif_pos hlt]
    exact hs
end Go.Proofs.Ytbdmmgplpndobaa
