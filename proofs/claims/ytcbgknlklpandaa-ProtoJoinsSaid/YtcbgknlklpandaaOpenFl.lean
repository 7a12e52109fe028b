/- Arguments that are slices of fields. -/
import Derived.Test.YtcbgknlklpandaaRow
import Derived.Test.YtcbgknlklpandaaOpenK
import Derived.Test.YtcbgknlklpandaaProK
import Derived.Deep.Slices
import Derived.Lib.SmallJoins
namespace Go.Proofs.Ytcbgknlklpandaa
open Go.ChangeShapes Go.WideShapes Go.ChangeAt Go.RowKit Go.Joins Go.Deep

theorem no_spotF {W : World} {a : Addr} {v : Value} (h : W.cell? a = some v) : a = ⟨a.block, a.off, none⟩ := by
  obtain ⟨b, o, s⟩ := a
  have hs : s = none := by simpa using World.cell?_spot h
  rw [hs]
set_option maxRecDepth 100000 in
theorem open_cellsF {H : Type} {enc : TypeId × Value → H} {W : World} {base : Nat} {spare : Nat → Bool} {held : Bool} {t e : TypeId} {fuel : Nat} {cs : List Value} {x : DataW H × List MemPlace} (ht : Try.prog.underlying t = some (.slice e)) (k : Nat) (hk : Try.prog.cellsOf e = k) (hk0 : 0 < k)
    (h : DataW.trod enc Try.prog W base spare held fuel t cs = some x) :
    ∃ (q : Option Addr) (len cap : Nat), cs = [.slice q len cap] ∧ len ≤ cap ∧ cap ≤ maxLen ∧ (len = 0 ∨ ∃ b off, q = some ⟨b, off, none⟩ ∧ b < W.heap.size ∧
      ∀ i, i < len → ∃ (cs' : List Value) (n : Nat) (D : DataW H) (p : List MemPlace), cs'.length = k ∧ (∀ j u, cs'[j]? = some u → W.cell? ⟨b, off + i * k + j, none⟩ = some u) ∧ DataW.trod enc Try.prog W base spare held n e cs' = some (D, p)) := by
  rcases open_slice ht h with ⟨hcs, _⟩ | ⟨a, len, cap, m, n, D, Pl, hcs, _, hl, hm, hmm, _, hi⟩
  · exact ⟨none, 0, 0, hcs, Nat.le_refl _, Nat.zero_le _, .inl rfl⟩
  · refine ⟨some a, len, cap, hcs, hl, hm, ?_⟩
    by_cases hz : len = 0
    · exact .inl hz
    · right
      have hml : len ≤ m := by rw [hmm]; split <;> omega
      rw [hk] at hi
      have each : ∀ i, i < len → ∃ cs' : List Value, cs'.length = k ∧ (∀ j u, cs'[j]? = some u → W.cell? ((a.add (i * k)).add j) = some u) ∧ DataW.trod enc Try.prog W base spare held n e cs' = some (D i, Pl i) := by
        intro i hlt
        obtain ⟨cs', hc, ht'⟩ := hi i (by omega)
        obtain ⟨_, hlen, hat⟩ := World.cells?_some hc
        refine ⟨cs', hlen, fun j u hj => ?_, ht'⟩
        have hjl := (List.getElem?_eq_some_iff.1 hj).1
        have h1 := hat j (by omega)
        rw [h1]
        exact hj
      obtain ⟨cs0, hl0, hc0, _⟩ := each 0 (by omega)
      have hxa : W.cell? a = some (cs0[0]'(by omega)) := by
        have := hc0 0 _ (List.getElem?_eq_getElem (by omega))
        simpa [Addr.add] using this
      have ha := no_spotF hxa
      refine ⟨a.block, a.off, by rw [← ha], World.block_lt_of_cell? W a hxa, fun i hlt => ?_⟩
      obtain ⟨cs', hlen, hc, ht'⟩ := each i hlt
      refine ⟨cs', n, D i, Pl i, hlen, fun j u hj => ?_, ht'⟩
      have := hc j u hj
      rw [ha, add_at, add_at] at this
      exact this
set_option maxRecDepth 100000 in
theorem open_kyF {H : Type} {enc : TypeId × Value → H} {W : World} {base : Nat} {spare : Nat → Bool} {held : Bool} {fuel : Nat} {e3 : Value} {x : DataW H × List MemPlace}
    (h : DataW.trod enc Try.prog W base spare held fuel 62 [e3] = some x) : ∃ (b : List Nat) (q : Option Addr) (c : Nat), e3 = .slice q b.length c ∧ KL .u8 W e3 b ∧ ∀ n ∈ b, n < 256 := by
  obtain ⟨q, len, cap, hcs, hl, hm, hr⟩ := open_cellsF Try.underlying62 1 (by kernel_rfl) (by omega) h
  obtain rfl : e3 = .slice q len cap := by simpa using hcs
  rcases hr with rfl | ⟨b, off, rfl, hb, hr⟩
  · exact ⟨[], q, cap, rfl, ⟨q, cap, rfl, Nat.zero_le _, fun i hi => absurd hi (by simp)⟩, fun n hn => (List.not_mem_nil hn).elim⟩
  · have each : ∀ i, i < len → ∃ n : Nat, W.cell? ⟨b, off + i, none⟩ = some (.int .u8 (n : Int)) ∧ n < 256 := by
      intro i hi
      obtain ⟨cs', n, D, p, hlen, hc, ht⟩ := hr i hi
      match cs', hlen with
      | [e0], _ =>
        obtain ⟨x, ex, _, hwf⟩ := DataW.trod_int Try.underlying5 ht
        have ex' : e0 = .int .u8 x := by simpa using ex
        have hbx := bounds_u8 hwf
        have hxn : (x.toNat : Int) = x := by omega
        refine ⟨x.toNat, ?_, by omega⟩
        have := hc 0 _ rfl
        rw [hxn, ← ex']
        simpa using this
    refine ⟨(List.range len).map fun i => if h : i < len then (each i h).choose else 0, some ⟨b, off, none⟩, cap, by simp, ⟨some ⟨b, off, none⟩, cap, by simp, by simpa using hl, fun i hi' => ?_⟩, fun n hn => ?_⟩
    · have hlt : i < len := by simpa using hi'
      refine ⟨b, off, rfl, ?_⟩
      rw [(each i hlt).choose_spec.1]
      simp [hlt]
    · obtain ⟨i, hi2, rfl⟩ := List.mem_map.1 hn
      rw [List.mem_range] at hi2
      rw [dif_pos hi2]
      exact (each i hi2).choose_spec.2
set_option maxRecDepth 100000 in
theorem open_fl {H : Type} {enc : TypeId × Value → H} {W : World} {base b0 : Nat} {spare : Nat → Bool} {held : Bool} {r : Reach} {v : Value} {d : DataW H} {p : List MemPlace}
    (hv : Value.okWide Try.prog W r b0 60 v) (h : DataW.Trod enc Try.prog W base spare held 60 v d p) :
    ∃ L : List Fd, FL W v L ∧ ∀ f ∈ L, f.n < 18446744073709551616 ∧ ∀ x ∈ f.b, x < 256 := by
  obtain ⟨a0, len0, cap0, rfl⟩ := okWide_slice Try.underlying60 hv
  obtain ⟨fuel, hf⟩ := h
  obtain ⟨q, len, cap, hcs, hl, hm, hr⟩ := open_cellsF Try.underlying60 4 (by kernel_rfl) (by omega) hf
  simp [Value.cells] at hcs
  obtain ⟨rfl, rfl, rfl⟩ := hcs
  rcases hr with rfl | ⟨b, off, rfl, hb, hr⟩
  · exact ⟨[], ⟨_, _, rfl, Nat.zero_le _, fun i hi => absurd hi (by simp)⟩, fun f hf => (List.not_mem_nil hf).elim⟩
  · have each : ∀ i, i < len0 → ∃ (f : Fd), (∃ qb cb, FAt W b (off + i * 4) f qb cb) ∧ f.n < 18446744073709551616 ∧ ∀ x ∈ f.b, x < 256 := by
      intro i hi
      obtain ⟨cs', n, D, p, hlen, hc, ht⟩ := hr i hi
      obtain ⟨y0, y1, y2, y3, n', _, _, t0, t1, t2, t3⟩ := trod_struct4 Try.underlying77 ht
      have cI : Try.prog.cellsOf 3 = 1 := by kernel_rfl
      have cU : Try.prog.cellsOf 36 = 1 := by kernel_rfl
      have cB : Try.prog.cellsOf 62 = 1 := by kernel_rfl
      match cs', hlen with
      | [e0, e1, e2, e3], _ =>
        simp only [cI, cU, cB] at t0 t1 t2 t3
        obtain ⟨x0, ex0, _, _⟩ := DataW.trod_int Try.underlying3 t0
        obtain ⟨x1, ex1, _, _⟩ := DataW.trod_int Try.underlying3 t1
        obtain ⟨x2, ex2, _, hw2⟩ := DataW.trod_int Try.underlying36 t2
        have ex0' : e0 = .int .i64 x0 := by simpa using ex0
        have ex1' : e1 = .int .i64 x1 := by simpa using ex1
        have ex2' : e2 = .int .u64 x2 := by simpa using ex2
        have hb2 := bounds_u64 hw2
        have hxn : (x2.toNat : Int) = x2 := by omega
        obtain ⟨bb, qb, cb, ex3, hk, hlt⟩ := open_kyF (e3 := e3) (by simpa using t3)
        subst ex0' ex1' ex2'
        refine ⟨⟨x0, x1, x2.toNat, bb⟩, ⟨qb, cb, by simpa using hc 0 _ rfl, by simpa using hc 1 _ rfl, ?_, ?_, ?_⟩, by dsimp only; omega, hlt⟩
        · dsimp only; rw [hxn]; simpa using hc 2 _ rfl
        · have := hc 3 _ rfl
          rw [ex3] at this
          simpa using this
        · rw [ex3] at hk; exact hk
    refine ⟨(List.range len0).map fun i => if h : i < len0 then (each i h).choose else fdZ, ⟨some ⟨b, off, none⟩, cap0, by simp, by simpa using hl, fun i hi' => ?_⟩, fun f hf => ?_⟩
    · have hlt : i < len0 := by simpa using hi'
      obtain ⟨⟨qb, cb, hs⟩, _⟩ := (each i hlt).choose_spec
      refine ⟨b, off, qb, cb, rfl, ?_⟩
      simp only [List.getElem_map, List.getElem_range, dif_pos hlt]
      exact hs
    · obtain ⟨i, hi2, rfl⟩ := List.mem_map.1 hf
      rw [List.mem_range] at hi2
      rw [dif_pos hi2]
      exact (each i hi2).choose_spec.2
end Go.Proofs.Ytcbgknlklpandaa
