/- Arguments that are slices of numbers, as IL. -/
import Derived.Test.YtmmahejdpanmjaaRow
import Derived.Test.YtmmahejdpanmjaaOrd
import Derived.Deep.Slices
namespace Go.Proofs.Ytmmahejdpanmjaa
open Go.ChangeShapes Go.WideShapes Go.ChangeAt Go.RowKit Go.Joins Go.Deep

theorem no_spotI {W : World} {a : Addr} {v : Value} (h : W.cell? a = some v) : a = ⟨a.block, a.off, none⟩ := by
  obtain ⟨b, o, s⟩ := a
  have hs : s = none := by simpa using World.cell?_spot h
  rw [hs]

set_option maxRecDepth 100000 in
/-- Numbers that came in, in a slice. -/
theorem open_il {H : Type} {enc : TypeId × Value → H} {W : World} {base b0 : Nat} {spare : Nat → Bool} {held : Bool} {r : Reach} {v : Value} {d : DataW H} {p : List MemPlace}
    (hv : Value.okWide Try.prog W r b0 24 v) (h : DataW.Trod enc Try.prog W base spare held 24 v d p) :
    ∃ L : List Int, IL W W.heap.size v L ∧ L.length ≤ 9223372036854775807 := by
  obtain ⟨a0, len, cap, rfl⟩ := okWide_slice Try.underlying24 hv
  obtain ⟨fuel, hf⟩ := h
  rcases open_slice Try.underlying24 hf with ⟨hcs, _⟩ | ⟨a, len', cap', m, n, D, Pl, hcs, _, hl, hm, hmm, _, hi⟩
  · have e : (.slice a0 len cap : Value) = .slice none 0 0 := by simpa [Value.cells] using hcs
    injection e with e1 e2 e3
    subst e1; subst e2; subst e3
    exact ⟨[], ⟨none, 0, rfl, Nat.le_refl _, fun i hi => absurd hi (by simp)⟩, by simp⟩
  · simp [Value.cells] at hcs
    obtain ⟨rfl, rfl, rfl⟩ := hcs
    unfold maxLen at hm
    by_cases hz : len = 0
    · subst hz
      exact ⟨[], ⟨some a, cap, rfl, Nat.zero_le _, fun i hi => absurd hi (by simp)⟩, by simp⟩
    · have hml : len ≤ m := by rw [hmm]; split <;> omega
      rw [show Try.prog.cellsOf 3 = 1 from by kernel_rfl] at hi
      have each : ∀ i, i < len → ∃ x : Int, W.cell? (a.add i) = some (.int .i64 x) := by
        intro i hlt
        obtain ⟨cs', hc, ht⟩ := hi i (by omega)
        rw [Nat.mul_one] at hc
        obtain ⟨_, hlen, hat⟩ := World.cells?_some hc
        match cs', hlen with
        | [e0], _ =>
          have k0 := hat 0 (by omega)
          obtain ⟨x, ex, _, _⟩ := DataW.trod_int Try.underlying3 ht
          have ex' : e0 = .int .i64 x := by simpa using ex
          refine ⟨x, ?_⟩
          have : (a.add i).add 0 = a.add i := by simp [Addr.add]
          rw [this] at k0
          rw [k0, ex']; rfl
      obtain ⟨x0, hx0⟩ := each 0 (by omega)
      have hxa : W.cell? a = some (.int .i64 x0) := by simpa [Addr.add] using hx0
      have ha := no_spotI hxa
      have hbl := World.block_lt_of_cell? W a hxa
      have each' : ∀ i, i < len → ∃ x : Int, W.cell? ⟨a.block, a.off + i, none⟩ = some (.int .i64 x) := by
        intro i hlt
        obtain ⟨x, h1⟩ := each i hlt
        rw [ha, add_at] at h1
        exact ⟨x, h1⟩
      refine ⟨(List.range len).map fun i => if h : i < len then (each' i h).choose else 0, ⟨some a, cap, by simp, by simpa using hl, fun i hi' => ?_⟩, by simp; omega⟩
      have hlt : i < len := by simpa using hi'
      refine ⟨a.block, a.off, by rw [← ha], by omega, ?_⟩
      rw [(each' i hlt).choose_spec]
      simp [hlt]
end Go.Proofs.Ytmmahejdpanmjaa
