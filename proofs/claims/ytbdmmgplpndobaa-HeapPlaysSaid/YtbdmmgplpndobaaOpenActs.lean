/- Arguments that are slices of acts. -/
import Derived.Test.YtbdmmgplpndobaaOpenEs
namespace Go.Proofs.Ytbdmmgplpndobaa
open Go.ChangeShapes Go.WideShapes Go.ChangeAt Go.RowKit Go.Joins Go.Deep

abbrev Ac := Int × E3 × E3
def AcAt (W : World) (k o : Nat) (a : Ac) : Prop :=
  W.cell? ⟨k, o, none⟩ = some (.int .i64 a.1) ∧ W.cell? ⟨k, o + 1, none⟩ = some (.int .i64 a.2.1.1) ∧ W.cell? ⟨k, o + 2, none⟩ = some (.int .i64 a.2.1.2.1) ∧ W.cell? ⟨k, o + 3, none⟩ = some (.int .i64 a.2.1.2.2) ∧ W.cell? ⟨k, o + 4, none⟩ = some (.int .i64 a.2.2.1) ∧ W.cell? ⟨k, o + 5, none⟩ = some (.int .i64 a.2.2.2.1) ∧ W.cell? ⟨k, o + 6, none⟩ = some (.int .i64 a.2.2.2.2)
theorem AcAt.keep {W W1 : World} {k o : Nat} {a : Ac} (h : AcAt W k o a) (b : Below W.heap.size W W1) : AcAt W1 k o a := by
  obtain ⟨h0, h1, h2, h3, h4, h5, h6⟩ := h
  exact ⟨cell_later b h0, cell_later b h1, cell_later b h2, cell_later b h3, cell_later b h4, cell_later b h5, cell_later b h6⟩
/-- A slice of acts. -/
def AcI (W : World) (v : Value) (L : List Ac) : Prop :=
  ∃ q c, v = .slice q L.length c ∧ L.length ≤ c ∧ ∀ i (_ : i < L.length), ∃ k o, q = some ⟨k, o, none⟩ ∧ AcAt W k (o + i * 7) L[i]
set_option maxRecDepth 100000 in
theorem open_ac {H : Type} {enc : TypeId × Value → H} {W : World} {base b0 : Nat} {spare : Nat → Bool} {held : Bool} {r : Reach} {v : Value} {d : DataW H} {p : List MemPlace}
    (hv : Value.okWide Try.prog W r b0 22 v) (h : DataW.Trod enc Try.prog W base spare held 22 v d p) :
    ∃ L : List Ac, AcI W v L := by
  obtain ⟨a0, len0, cap0, rfl⟩ := okWide_slice Try.underlying22 hv
  obtain ⟨fuel, hf⟩ := h
  obtain ⟨q, len, cap, hcs, hl, hm, hr⟩ := open_cells Try.underlying22 7 (by kernel_rfl) (by omega) hf
  simp [Value.cells] at hcs
  obtain ⟨rfl, rfl, rfl⟩ := hcs
  rcases hr with rfl | ⟨b, off, rfl, hb, hr⟩
  · exact ⟨[], _, _, rfl, Nat.zero_le _, fun i hi => absurd hi (by simp)⟩
  · have each : ∀ i, i < len0 → ∃ (q : Ac), AcAt W b (off + i * 7) q := by
      intro i hi
      obtain ⟨cs', n, D, p, hlen, hc, ht⟩ := hr i hi
      obtain ⟨y0, y1, y2, n', _, _, t0, t1, t2⟩ := trod_struct3 Try.underlying33 ht
      have cI : Try.prog.cellsOf 3 = 1 := Try.cells3
      have cE : Try.prog.cellsOf 31 = 3 := Try.cells31
      match cs', hlen with
      | [e0, e1, e2, e3, e4, e5, e6], _ =>
        simp only [cI] at t0
        simp only [cE] at t1 t2
        obtain ⟨x0, ex0, _, _⟩ := DataW.trod_int Try.underlying3 t0
        obtain ⟨z0, z1, z2, m1, _, _, s0, s1, s2⟩ := trod_struct3 Try.underlying31 t1
        obtain ⟨w0, w1, w2, m2, _, _, r0, r1, r2⟩ := trod_struct3 Try.underlying31 t2
        simp only [cI] at s0 s1 s2 r0 r1 r2
        obtain ⟨x1, ex1, _, _⟩ := DataW.trod_int Try.underlying3 s0
        obtain ⟨x2, ex2, _, _⟩ := DataW.trod_int Try.underlying3 s1
        obtain ⟨x3, ex3, _, _⟩ := DataW.trod_int Try.underlying3 s2
        obtain ⟨x4, ex4, _, _⟩ := DataW.trod_int Try.underlying3 r0
        obtain ⟨x5, ex5, _, _⟩ := DataW.trod_int Try.underlying3 r1
        obtain ⟨x6, ex6, _, _⟩ := DataW.trod_int Try.underlying3 r2
        have ex0' : e0 = .int .i64 x0 := by simpa using ex0
        have ex1' : e1 = .int .i64 x1 := by simpa using ex1
        have ex2' : e2 = .int .i64 x2 := by simpa using ex2
        have ex3' : e3 = .int .i64 x3 := by simpa using ex3
        have ex4' : e4 = .int .i64 x4 := by simpa using ex4
        have ex5' : e5 = .int .i64 x5 := by simpa using ex5
        have ex6' : e6 = .int .i64 x6 := by simpa using ex6
        subst ex0' ex1' ex2' ex3' ex4' ex5' ex6'
        exact ⟨(x0, (x1, x2, x3), (x4, x5, x6)), by simpa using hc 0 _ rfl, by simpa using hc 1 _ rfl, by simpa using hc 2 _ rfl, by simpa using hc 3 _ rfl, by simpa using hc 4 _ rfl, by simpa using hc 5 _ rfl, by simpa using hc 6 _ rfl⟩
    refine ⟨(List.range len0).map fun i => if h : i < len0 then (each i h).choose else (0, (0, 0, 0), (0, 0, 0)), some ⟨b, off, none⟩, cap0, by simp, by simpa using hl, fun i hi' => ?_⟩
    have hlt : i < len0 := by simpa using hi'
    have hs := (each i hlt).choose_spec
    refine ⟨b, off, rfl, ?_⟩
    simp only [List.getElem_map, List.getElem_range, dif_pos hlt]
    exact hs
end Go.Proofs.Ytbdmmgplpndobaa
