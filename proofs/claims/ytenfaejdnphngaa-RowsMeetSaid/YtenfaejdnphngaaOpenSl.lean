/- Points that came in, in a slice. -/
import Derived.Test.YtenfaejdnphngaaRow
import Derived.Test.YtenfaejdnphngaaRowsMl
import Derived.Deep.Slices
namespace Go.Proofs.Ytenfaejdnphngaa
open Go.ChangeShapes Go.WideShapes Go.ChangeAt Go.RowKit Go.Joins Go.Deep

theorem add_ptM (b off n : Nat) : Addr.add ⟨b, off, none⟩ n = ⟨b, off + n, none⟩ := by
  unfold Addr.add
  split
  · rename_i h; subst h; rfl
  · rfl
theorem spot_noneM {W : World} {a : Addr} {v : Value} (h : W.cell? a = some v) : a = ⟨a.block, a.off, none⟩ := by
  obtain ⟨b, o, s⟩ := a
  have hs : s = none := by simpa using World.cell?_spot h
  rw [hs]

set_option maxRecDepth 100000 in
/-- Points that came in, in a slice. -/
theorem open_ptsM {H : Type} {enc : TypeId × Value → H} {W : World} {base b0 : Nat} {spare : Nat → Bool} {held : Bool} {r : Reach} {v : Value} {d : DataW H} {p : List MemPlace}
    (hv : Value.okWide Try.prog W r b0 26 v) (h : DataW.Trod enc Try.prog W base spare held 26 v d p) :
    v = .slice none 0 0 ∨ ∃ a len cap, v = .slice (some a) len cap ∧ len ≤ cap ∧ cap ≤ maxLen ∧ (0 < len → ∃ (b off : Nat) (f g : Nat → Int), a = ⟨b, off, none⟩ ∧ Sl W b off len f g) := by
  obtain ⟨a0, len, cap, rfl⟩ := okWide_slice Try.underlying26 hv
  obtain ⟨fuel, hf⟩ := h
  rcases open_slice Try.underlying26 hf with ⟨hcs, _⟩ | ⟨a, len', cap', m, n, D, Pl, hcs, _, hl, hm, hmm, _, hi⟩
  · left
    simpa [Value.cells] using hcs
  · right
    simp [Value.cells] at hcs
    obtain ⟨rfl, rfl, rfl⟩ := hcs
    refine ⟨a, len, cap, rfl, hl, hm, fun h0 => ?_⟩
    have hml : len ≤ m := by rw [hmm]; split <;> omega
    rw [Try.cells23] at hi
    have each : ∀ i, i < len → ∃ x y : Int, W.cell? (a.add (i * 2)) = some (.int .i64 x) ∧ W.cell? ((a.add (i * 2)).add 1) = some (.int .i64 y) := by
      intro i hlt
      obtain ⟨cs', hc, ht⟩ := hi i (by omega)
      obtain ⟨_, hlen, hat⟩ := World.cells?_some hc
      obtain ⟨y0, y1, n', _, _, t0, t1⟩ := trod_struct2 Try.underlying23 ht
      match cs', hlen with
      | [e0, e1], _ =>
        have k0 := hat 0 (by omega)
        have k1 := hat 1 (by omega)
        obtain ⟨x, ex, _, _⟩ := DataW.trod_int Try.underlying3 t0
        obtain ⟨y, ey, _, _⟩ := DataW.trod_int Try.underlying3 t1
        have ex' : e0 = .int .i64 x := by simpa [show Try.prog.cellsOf 3 = 1 from by kernel_rfl] using ex
        have ey' : e1 = .int .i64 y := by simpa [show Try.prog.cellsOf 3 = 1 from by kernel_rfl] using ey
        refine ⟨x, y, ?_, ?_⟩
        · have : (a.add (i * 2)).add 0 = a.add (i * 2) := by simp [Addr.add]
          rw [this] at k0
          rw [k0, ex']; rfl
        · rw [k1, ey']; rfl
    obtain ⟨x0, _, hx0, _⟩ := each 0 h0
    have hxa : W.cell? a = some (.int .i64 x0) := by simpa [Addr.add] using hx0
    have ha := spot_noneM hxa
    have hbl := World.block_lt_of_cell? W a hxa
    have each' : ∀ i, i < len → ∃ x y : Int, W.cell? ⟨a.block, a.off + i * 2, none⟩ = some (.int .i64 x) ∧ W.cell? ⟨a.block, a.off + i * 2 + 1, none⟩ = some (.int .i64 y) := by
      intro i hlt
      obtain ⟨x, y, h1, h2⟩ := each i hlt
      rw [ha] at h1 h2
      rw [add_ptM] at h1
      rw [add_ptM, add_ptM] at h2
      exact ⟨x, y, h1, h2⟩
    refine ⟨a.block, a.off, fun i => if h : i < len then (each' i h).choose else 0, fun i => if h : i < len then (each' i h).choose_spec.choose else 0, ha, hbl, fun i hlt => ?_⟩
    have hs := (each' i hlt).choose_spec.choose_spec
    simp only [dif_pos hlt]
    exact hs
set_option maxRecDepth 100000 in
theorem open_psl {H : Type} {enc : TypeId × Value → H} {W : World} {base b0 : Nat} {spare : Nat → Bool} {held : Bool} {r : Reach} {v : Value} {d : DataW H} {p : List MemPlace}
    (hv : Value.okWide Try.prog W r b0 26 v) (h : DataW.Trod enc Try.prog W base spare held 26 v d p) : ∃ n b off f g, PSl W v n b off f g := by
  rcases open_ptsM hv h with rfl | ⟨a, len, cap, rfl, hl, hm, hs⟩
  · exact ⟨0, 0, 0, fun _ => 0, fun _ => 0, none, 0, rfl, Nat.le_refl _, by omega, fun h => by omega⟩
  · rcases Nat.eq_zero_or_pos len with rfl | hpos
    · exact ⟨0, 0, 0, fun _ => 0, fun _ => 0, some a, cap, rfl, hl, by unfold maxLen at hm; omega, fun h => by omega⟩
    · obtain ⟨b, off, f, g, rfl, hS⟩ := hs hpos
      exact ⟨len, b, off, f, g, _, cap, rfl, hl, by unfold maxLen at hm; omega, fun _ => ⟨rfl, hS⟩⟩
end Go.Proofs.Ytenfaejdnphngaa
