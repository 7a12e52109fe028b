/- Arguments that are slices of points, and slices of slices of numbers. -/
import Derived.Test.YtbdmmgplpndobaaRow
import Derived.Test.YtbdmmgplpndobaaRowsI
import Derived.Test.YtbdmmgplpndobaaRowP
import Derived.Deep.Slices
namespace Go.Proofs.Ytbdmmgplpndobaa
open Go.ChangeShapes Go.WideShapes Go.ChangeAt Go.RowKit Go.Joins Go.Deep

theorem no_spotR {W : World} {a : Addr} {v : Value} (h : W.cell? a = some v) : a = ⟨a.block, a.off, none⟩ := by
  obtain ⟨b, o, s⟩ := a
  have hs : s = none := by simpa using World.cell?_spot h
  rw [hs]
set_option maxRecDepth 100000 in
/-- What a slice's cells read, element by element (each of k cells). -/
theorem open_cells {H : Type} {enc : TypeId × Value → H} {W : World} {base : Nat} {spare : Nat → Bool} {held : Bool} {t e : TypeId} {fuel : Nat} {cs : List Value} {x : DataW H × List MemPlace} (ht : Try.prog.underlying t = some (.slice e)) (k : Nat) (hk : Try.prog.cellsOf e = k) (hk0 : 0 < k)
    (h : DataW.trod enc Try.prog W base spare held fuel t cs = some x) :
    ∃ (q : Option Addr) (len cap : Nat), cs = [.slice q len cap] ∧ len ≤ cap ∧ cap ≤ maxLen ∧ (len = 0 ∨ ∃ b off, q = some ⟨b, off, none⟩ ∧ b < W.heap.size ∧
      ∀ i, i < len → ∃ (cs' : List Value) (n : Nat) (D : DataW H) (p : List MemPlace), cs'.length = k ∧ (∀ j u, cs'[j]? = some u → W.cell? ⟨b, off + i * k + j, none⟩ = some u) ∧ DataW.trod enc Try.prog W base spare held n e cs' = some (D, p)) := by
  rcases open_slice ht h with ⟨hcs, _⟩ | ⟨a, len, cap, m, n, D, Pl, hcs, _, hl, hm, hmm, _, hi⟩
  · exact ⟨none, 0, 0, hcs, Nat.le_refl _, Nat.zero_le _, .inl rfl⟩
  · refine ⟨some a, len, cap, hcs, hl, hm, ?_⟩
    by_cases hz : len = 0
    · exact .inl hz
    · right
      have hml : len ≤ m := by rw [hmm]; split <;> omega
      rw [hk] at hi
      have each : ∀ i, i < len → ∃ cs' : List Value, cs'.length = k ∧ (∀ j u, cs'[j]? = some u → W.cell? ((a.add (i * k)).add j) = some u) ∧ DataW.trod enc Try.prog W base spare held n e cs' = some (D i, Pl i) := by
        intro i hlt
        obtain ⟨cs', hc, ht'⟩ := hi i (by omega)
        obtain ⟨_, hlen, hat⟩ := World.cells?_some hc
        refine ⟨cs', hlen, fun j u hj => ?_, ht'⟩
        have hjl := (List.getElem?_eq_some_iff.1 hj).1
        have h1 := hat j (by omega)
        rw [h1]
        exact hj
      obtain ⟨cs0, hl0, hc0, _⟩ := each 0 (by omega)
      have hxa : W.cell? a = some (cs0[0]'(by omega)) := by
        have := hc0 0 _ (List.getElem?_eq_getElem (by omega))
        simpa [Addr.add] using this
      have ha := no_spotR hxa
      refine ⟨a.block, a.off, by rw [← ha], World.block_lt_of_cell? W a hxa, fun i hlt => ?_⟩
      obtain ⟨cs', hlen, hc, ht'⟩ := each i hlt
      refine ⟨cs', n, D i, Pl i, hlen, fun j u hj => ?_, ht'⟩
      have := hc j u hj
      rw [ha, add_at, add_at] at this
      exact this
theorem Try.cells3 : Try.prog.cellsOf 3 = 1 := by kernel_rfl
theorem Try.cells73 : Try.prog.cellsOf 73 = 1 := by kernel_rfl
set_option maxRecDepth 100000 in
theorem open_il_raw {H : Type} {enc : TypeId × Value → H} {W : World} {base : Nat} {spare : Nat → Bool} {held : Bool} {fuel : Nat} {cs : List Value} {x : DataW H × List MemPlace} (h : DataW.trod enc Try.prog W base spare held fuel 73 cs = some x) :
    ∃ (e : Value) (L : List Int), cs = [e] ∧ IL W W.heap.size e L ∧ L.length ≤ 9223372036854775807 := by
  obtain ⟨q, len, cap, rfl, hl, hm, hr⟩ := open_cells Try.underlying73 1 Try.cells3 (by omega) h
  unfold maxLen at hm
  rcases hr with rfl | ⟨b, off, rfl, hb, hr⟩
  · exact ⟨_, [], rfl, IL.nil _ _ _ _, by simp⟩
  · have each : ∀ i, i < len → ∃ x : Int, W.cell? ⟨b, off + i, none⟩ = some (.int .i64 x) := by
      intro i hi
      obtain ⟨cs', n, D, p, hlen, hc, ht⟩ := hr i hi
      match cs', hlen with
      | [e0], _ =>
        obtain ⟨x, ex, _, _⟩ := DataW.trod_int Try.underlying3 ht
        have ex' : e0 = .int .i64 x := by simpa using ex
        subst ex'
        have := hc 0 _ rfl
        rw [Nat.mul_one, Nat.add_zero] at this
        exact ⟨x, this⟩
    refine ⟨_, (List.range len).map fun i => if h : i < len then (each i h).choose else 0, rfl, ⟨_, cap, by simp, by simpa using hl, fun i hi' => ⟨b, off, rfl, by omega, ?_⟩⟩, by simp; omega⟩
    have hlt : i < len := by simpa using hi'
    rw [(each i hlt).choose_spec]
    simp [hlt]
set_option maxRecDepth 100000 in
/-- Rows that came in. -/
theorem open_rl {H : Type} {enc : TypeId × Value → H} {W : World} {base b0 : Nat} {spare : Nat → Bool} {held : Bool} {r : Reach} {v : Value} {d : DataW H} {p : List MemPlace}
    (hv : Value.okWide Try.prog W r b0 106 v) (h : DataW.Trod enc Try.prog W base spare held 106 v d p) :
    ∃ R : List (List Int), RL W v R ∧ (∀ x ∈ R, x.length ≤ 9223372036854775807) := by
  obtain ⟨a0, len0, cap0, rfl⟩ := okWide_slice Try.underlying106 hv
  obtain ⟨fuel, hf⟩ := h
  obtain ⟨q, len, cap, hcs, hl, hm, hr⟩ := open_cells Try.underlying106 1 Try.cells73 (by omega) hf
  simp [Value.cells] at hcs
  obtain ⟨rfl, rfl, rfl⟩ := hcs
  rcases hr with rfl | ⟨b, off, rfl, hb, hr⟩
  · exact ⟨[], ⟨_, _, rfl, by simp, fun i hi => absurd hi (by simp)⟩, by simp⟩
  · have each : ∀ i, i < len0 → ∃ (q : Value × List Int), W.cell? ⟨b, off + i, none⟩ = some q.1 ∧ IL W W.heap.size q.1 q.2 ∧ q.2.length ≤ 9223372036854775807 := by
      intro i hi
      obtain ⟨cs', n, D, p, hlen, hc, ht⟩ := hr i hi
      obtain ⟨e, L, rfl, hI, hL⟩ := open_il_raw ht
      have := hc 0 _ rfl
      rw [Nat.mul_one, Nat.add_zero] at this
      exact ⟨(e, L), this, hI, hL⟩
    refine ⟨(List.range len0).map fun i => if h : i < len0 then (each i h).choose.2 else [], ⟨some ⟨b, off, none⟩, cap0, by simp, by simpa using hl, fun i hi' => ?_⟩, fun x hx => ?_⟩
    · have hlt : i < len0 := by simpa using hi'
      have hs := (each i hlt).choose_spec
      refine ⟨b, off, _, rfl, hs.1, ?_⟩
      simp only [List.getElem_map, List.getElem_range, dif_pos hlt]
      exact hs.2.1
    · obtain ⟨i, hi, rfl⟩ := List.mem_map.1 hx
      rw [List.mem_range] at hi
      rw [dif_pos hi]
      exact (each i hi).choose_spec.2.2
set_option maxRecDepth 100000 in
/-- Points that came in. -/
theorem open_pi {H : Type} {enc : TypeId × Value → H} {W : World} {base b0 : Nat} {spare : Nat → Bool} {held : Bool} {r : Reach} {v : Value} {d : DataW H} {p : List MemPlace}
    (hv : Value.okWide Try.prog W r b0 53 v) (h : DataW.Trod enc Try.prog W base spare held 53 v d p) :
    ∃ L : List (Int × Int), PI W W.heap.size v L := by
  obtain ⟨a0, len0, cap0, rfl⟩ := okWide_slice Try.underlying53 hv
  obtain ⟨fuel, hf⟩ := h
  obtain ⟨q, len, cap, hcs, hl, hm, hr⟩ := open_cells Try.underlying53 2 Try.cells50 (by omega) hf
  simp [Value.cells] at hcs
  obtain ⟨rfl, rfl, rfl⟩ := hcs
  rcases hr with rfl | ⟨b, off, rfl, hb, hr⟩
  · exact ⟨[], PI.nil _ _ _ _⟩
  · have each : ∀ i, i < len0 → ∃ (q : Int × Int), W.cell? ⟨b, off + i * 2, none⟩ = some (.int .i64 q.1) ∧ W.cell? ⟨b, off + i * 2 + 1, none⟩ = some (.int .i64 q.2) := by
      intro i hi
      obtain ⟨cs', n, D, p, hlen, hc, ht⟩ := hr i hi
      obtain ⟨y0, y1, n', _, _, t0, t1⟩ := trod_struct2 Try.underlying50 ht
      match cs', hlen with
      | [e0, e1], _ =>
        obtain ⟨x, ex, _, _⟩ := DataW.trod_int Try.underlying3 t0
        obtain ⟨y, ey, _, _⟩ := DataW.trod_int Try.underlying3 t1
        have ex' : e0 = .int .i64 x := by simpa [show Try.prog.cellsOf 3 = 1 from Try.cells3] using ex
        have ey' : e1 = .int .i64 y := by simpa [show Try.prog.cellsOf 3 = 1 from Try.cells3] using ey
        subst ex' ey'
        exact ⟨(x, y), by simpa using hc 0 _ rfl, by simpa using hc 1 _ rfl⟩
    refine ⟨(List.range len0).map fun i => if h : i < len0 then (each i h).choose else (0, 0), some ⟨b, off, none⟩, cap0, by simp, by simpa using hl, fun i hi' => ?_⟩
    have hlt : i < len0 := by simpa using hi'
    have hs := (each i hlt).choose_spec
    refine ⟨b, off, rfl, by omega, ?_⟩
    simp only [List.getElem_map, List.getElem_range, dif_pos hlt]
    exact hs
end Go.Proofs.Ytbdmmgplpndobaa
