/- Arguments that are slices of bytes, of words. -/
import Derived.Test.YtcbgknlklpandaaRow
import Derived.Test.YtcbgknlklpandaaVarA
import Derived.Deep.Slices
namespace Go.Proofs.Ytcbgknlklpandaa
open Go.ChangeShapes Go.WideShapes Go.ChangeAt Go.RowKit Go.Joins Go.Deep

theorem bounds_u64 {n : Int} (h : (Lit.int .u64 n).wf = true) : 0 ≤ n ∧ n ≤ 18446744073709551615 := by
  simp [Lit.wf, IntKind.min, IntKind.max, IntKind.signed, IntKind.bits] at h
  omega
theorem no_spotK {W : World} {a : Addr} {v : Value} (h : W.cell? a = some v) : a = ⟨a.block, a.off, none⟩ := by
  obtain ⟨b, o, s⟩ := a
  have hs : s = none := by simpa using World.cell?_spot h
  rw [hs]
set_option maxRecDepth 100000 in
/-- Numbers that came in, in a slice. -/
theorem open_kw {H : Type} {enc : TypeId × Value → H} {W : World} {base b0 : Nat} {spare : Nat → Bool} {held : Bool} {r : Reach} {v : Value} {d : DataW H} {p : List MemPlace}
    (hv : Value.okWide Try.prog W r b0 180 v) (h : DataW.Trod enc Try.prog W base spare held 180 v d p) :
    ∃ L : List Nat, KL .u64 W v L ∧ L.length ≤ 9223372036854775807 ∧ ∀ n ∈ L, n < 18446744073709551616 := by
  obtain ⟨a0, len, cap, rfl⟩ := okWide_slice Try.underlying180 hv
  obtain ⟨fuel, hf⟩ := h
  rcases open_slice Try.underlying180 hf with ⟨hcs, _⟩ | ⟨a, len', cap', m, n, D, Pl, hcs, _, hl, hm, hmm, _, hi⟩
  · have e : (.slice a0 len cap : Value) = .slice none 0 0 := by simpa [Value.cells] using hcs
    injection e with e1 e2 e3
    subst e1; subst e2; subst e3
    exact ⟨[], ⟨none, 0, rfl, Nat.le_refl _, fun i hi => absurd hi (by simp)⟩, by simp, fun n hn => (List.not_mem_nil hn).elim⟩
  · simp [Value.cells] at hcs
    obtain ⟨rfl, rfl, rfl⟩ := hcs
    unfold maxLen at hm
    by_cases hz : len = 0
    · subst hz
      exact ⟨[], ⟨some a, cap, rfl, Nat.zero_le _, fun i hi => absurd hi (by simp)⟩, by simp, fun n hn => (List.not_mem_nil hn).elim⟩
    · have hml : len ≤ m := by rw [hmm]; split <;> omega
      rw [show Try.prog.cellsOf 36 = 1 from by kernel_rfl] at hi
      have each : ∀ i, i < len → ∃ x : Nat, W.cell? (a.add i) = some (.int .u64 (x : Int)) ∧ x < 18446744073709551616 := by
        intro i hlt
        obtain ⟨cs', hc, ht⟩ := hi i (by omega)
        rw [Nat.mul_one] at hc
        obtain ⟨_, hlen, hat⟩ := World.cells?_some hc
        match cs', hlen with
        | [e0], _ =>
          have k0 := hat 0 (by omega)
          obtain ⟨x, ex, _, hwf⟩ := DataW.trod_int Try.underlying36 ht
          have ex' : e0 = .int .u64 x := by simpa using ex
          have hbx := bounds_u64 hwf
          have hxn : (x.toNat : Int) = x := by omega
          refine ⟨x.toNat, ?_, by omega⟩
          have : (a.add i).add 0 = a.add i := by simp [Addr.add]
          rw [this] at k0
          rw [k0, ex', hxn]; rfl
      obtain ⟨x0, hx0, _⟩ := each 0 (by omega)
      have hxa : W.cell? a = some (.int .u64 (x0 : Int)) := by simpa [Addr.add] using hx0
      have ha := no_spotK hxa
      have hbl := World.block_lt_of_cell? W a hxa
      have each' : ∀ i, i < len → ∃ x : Nat, W.cell? ⟨a.block, a.off + i, none⟩ = some (.int .u64 (x : Int)) ∧ x < 18446744073709551616 := by
        intro i hlt
        obtain ⟨x, h1, h2⟩ := each i hlt
        rw [ha, add_at] at h1
        exact ⟨x, h1, h2⟩
      refine ⟨(List.range len).map fun i => if h : i < len then (each' i h).choose else 0, ⟨some a, cap, by simp, by simpa using hl, fun i hi' => ?_⟩, by simp; omega, fun n hn => ?_⟩
      · have hlt : i < len := by simpa using hi'
        refine ⟨a.block, a.off, by rw [← ha], ?_⟩
        rw [(each' i hlt).choose_spec.1]
        simp [hlt]
      · obtain ⟨i, hi2, rfl⟩ := List.mem_map.1 hn
        rw [List.mem_range] at hi2
        rw [dif_pos hi2]
        exact (each' i hi2).choose_spec.2
set_option maxRecDepth 100000 in
/-- Numbers that came in, in a slice. -/
theorem open_ky {H : Type} {enc : TypeId × Value → H} {W : World} {base b0 : Nat} {spare : Nat → Bool} {held : Bool} {r : Reach} {v : Value} {d : DataW H} {p : List MemPlace}
    (hv : Value.okWide Try.prog W r b0 62 v) (h : DataW.Trod enc Try.prog W base spare held 62 v d p) :
    ∃ L : List Nat, KL .u8 W v L ∧ L.length ≤ 9223372036854775807 ∧ ∀ n ∈ L, n < 256 := by
  obtain ⟨a0, len, cap, rfl⟩ := okWide_slice Try.underlying62 hv
  obtain ⟨fuel, hf⟩ := h
  rcases open_slice Try.underlying62 hf with ⟨hcs, _⟩ | ⟨a, len', cap', m, n, D, Pl, hcs, _, hl, hm, hmm, _, hi⟩
  · have e : (.slice a0 len cap : Value) = .slice none 0 0 := by simpa [Value.cells] using hcs
    injection e with e1 e2 e3
    subst e1; subst e2; subst e3
    exact ⟨[], ⟨none, 0, rfl, Nat.le_refl _, fun i hi => absurd hi (by simp)⟩, by simp, fun n hn => (List.not_mem_nil hn).elim⟩
  · simp [Value.cells] at hcs
    obtain ⟨rfl, rfl, rfl⟩ := hcs
    unfold maxLen at hm
    by_cases hz : len = 0
    · subst hz
      exact ⟨[], ⟨some a, cap, rfl, Nat.zero_le _, fun i hi => absurd hi (by simp)⟩, by simp, fun n hn => (List.not_mem_nil hn).elim⟩
    · have hml : len ≤ m := by rw [hmm]; split <;> omega
      rw [show Try.prog.cellsOf 5 = 1 from by kernel_rfl] at hi
      have each : ∀ i, i < len → ∃ x : Nat, W.cell? (a.add i) = some (.int .u8 (x : Int)) ∧ x < 256 := by
        intro i hlt
        obtain ⟨cs', hc, ht⟩ := hi i (by omega)
        rw [Nat.mul_one] at hc
        obtain ⟨_, hlen, hat⟩ := World.cells?_some hc
        match cs', hlen with
        | [e0], _ =>
          have k0 := hat 0 (by omega)
          obtain ⟨x, ex, _, hwf⟩ := DataW.trod_int Try.underlying5 ht
          have ex' : e0 = .int .u8 x := by simpa using ex
          have hbx := bounds_u8 hwf
          have hxn : (x.toNat : Int) = x := by omega
          refine ⟨x.toNat, ?_, by omega⟩
          have : (a.add i).add 0 = a.add i := by simp [Addr.add]
          rw [this] at k0
          rw [k0, ex', hxn]; rfl
      obtain ⟨x0, hx0, _⟩ := each 0 (by omega)
      have hxa : W.cell? a = some (.int .u8 (x0 : Int)) := by simpa [Addr.add] using hx0
      have ha := no_spotK hxa
      have hbl := World.block_lt_of_cell? W a hxa
      have each' : ∀ i, i < len → ∃ x : Nat, W.cell? ⟨a.block, a.off + i, none⟩ = some (.int .u8 (x : Int)) ∧ x < 256 := by
        intro i hlt
        obtain ⟨x, h1, h2⟩ := each i hlt
        rw [ha, add_at] at h1
        exact ⟨x, h1, h2⟩
      refine ⟨(List.range len).map fun i => if h : i < len then (each' i h).choose else 0, ⟨some a, cap, by simp, by simpa using hl, fun i hi' => ?_⟩, by simp; omega, fun n hn => ?_⟩
      · have hlt : i < len := by simpa using hi'
        refine ⟨a.block, a.off, by rw [← ha], ?_⟩
        rw [(each' i hlt).choose_spec.1]
        simp [hlt]
      · obtain ⟨i, hi2, rfl⟩ := List.mem_map.1 hn
        rw [List.mem_range] at hi2
        rw [dif_pos hi2]
        exact (each' i hi2).choose_spec.2
end Go.Proofs.Ytcbgknlklpandaa
