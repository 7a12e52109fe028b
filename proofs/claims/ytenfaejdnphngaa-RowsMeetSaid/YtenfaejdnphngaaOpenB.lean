/- A box that came in. -/
import Derived.Test.YtenfaejdnphngaaRow
import Derived.Test.YtenfaejdnphngaaRowsA
namespace Go.Proofs.Ytenfaejdnphngaa
open Go.ChangeShapes Go.WideShapes Go.ChangeAt Go.RowKit Go.Joins

theorem Try.cells25 : Try.prog.cellsOf 25 = 4 := by kernel_rfl
set_option maxRecDepth 100000 in
theorem open_bx {H : Type} {enc : TypeId × Value → H} {W : World} {base b0 : Nat} {spare : Nat → Bool} {held : Bool} {r : Reach} {v : Value} {d : DataW H} {p : List MemPlace}
    (hv : Value.okWide Try.prog W r b0 25 v) (h : DataW.Trod enc Try.prog W base spare held 25 v d p) : ∃ e : B4, v = encB e := by
  obtain ⟨cs, rfl, hsz⟩ := okWide_struct Try.underlying25 hv
  obtain ⟨c0, c1, c2, c3, rfl⟩ := array4 (hsz.trans Try.cells25)
  obtain ⟨fuel, hf⟩ := h
  have cP : Try.prog.cellsOf 23 = 2 := by kernel_rfl
  have cI : Try.prog.cellsOf 3 = 1 := by kernel_rfl
  obtain ⟨y0, y1, n, _, _, t0, t1⟩ := trod_struct2 Try.underlying25 hf
  simp only [cP, Value.cells] at t0 t1
  obtain ⟨z0, z1, m1, _, _, s0, s1⟩ := trod_struct2 Try.underlying23 t0
  obtain ⟨w0, w1, m2, _, _, r0, r1⟩ := trod_struct2 Try.underlying23 t1
  simp only [cI] at s0 s1 r0 r1
  obtain ⟨x0, e0, _, _⟩ := DataW.trod_int Try.underlying3 s0
  obtain ⟨x1, e1, _, _⟩ := DataW.trod_int Try.underlying3 s1
  obtain ⟨x2, e2, _, _⟩ := DataW.trod_int Try.underlying3 r0
  obtain ⟨x3, e3, _, _⟩ := DataW.trod_int Try.underlying3 r1
  simp at e0 e1 e2 e3
  subst e0 e1 e2 e3
  exact ⟨(x0, x1, x2, x3), rfl⟩
end Go.Proofs.Ytenfaejdnphngaa
