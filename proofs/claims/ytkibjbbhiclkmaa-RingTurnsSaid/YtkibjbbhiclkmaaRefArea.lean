/- The walk of the document's doubled area. -/
import Derived.Test.YtkibjbbhiclkmaaRefRow
import Derived.Deep.DeepCutAuto
import Derived.Deep.LoopGhost
import Derived.BigRegion
import Derived.RegionTactic
namespace Go.Proofs.Ytkibjbbhiclkmaa
open Go.RowKit

/-- An edge's part. -/
def raE (L : List (Int × Int)) (i : Nat) : Int := (ptA L i).1 * (ptA L ((i + 1) % L.length)).2 - (ptA L ((i + 1) % L.length)).1 * (ptA L i).2
theorem okL_pt {L : List (Int × Int)} (h : okL L = true) (i : Nat) : okp (ptA L i).1 (ptA L i).2 = true := by
  by_cases hi : i < L.length
  · exact okL_at h hi
  · have e : ptA L i = (0, 0) := by unfold ptA; rw [List.getD_eq_getElem?_getD, List.getElem?_eq_none (by omega)]; rfl
    rw [e]; rfl
theorem raE_in {L : List (Int × Int)} (h : okL L = true) (i : Nat) : -562949953421312 ≤ raE L i ∧ raE L i ≤ 562949953421312 := by
  have h1 := okp_yes (okL_pt h i)
  have h2 := okp_yes (okL_pt h ((i + 1) % L.length))
  have m1 := mul_in (ptA L i).1 (ptA L ((i + 1) % L.length)).2 16777216 16777216 (by omega) (by omega)
  have m2 := mul_in (ptA L ((i + 1) % L.length)).1 (ptA L i).2 16777216 16777216 (by omega) (by omega)
  unfold raE
  omega
structure QA (w W : World) (k0 k1 : Nat) (a b : Int × Int) : Prop where
  a0 : W.cell? ⟨k0, 0, none⟩ = some (.int .i64 a.1)
  a1 : W.cell? ⟨k0, 1, none⟩ = some (.int .i64 a.2)
  b0 : W.cell? ⟨k1, 0, none⟩ = some (.int .i64 b.1)
  b1 : W.cell? ⟨k1, 1, none⟩ = some (.int .i64 b.2)
  below : Below w.heap.size w W
theorem QA.drew {w W : World} {k0 k1 : Nat} {a b : Int × Int} (d : Nat) (h : QA w W k0 k1 a b) : QA w { W with drawn := d } k0 k1 a b :=
  ⟨h.a0, h.a1, h.b0, h.b1, ⟨h.below.os, h.below.tape, h.below.output, h.below.size, h.below.block⟩⟩
theorem QA.one {w W : World} {a b : Int × Int} {T : TypeId} (h : Below w.heap.size w W) : QA w ((W.alloc (.cells #[.int .i64 a.1, .int .i64 a.2] T)).alloc (.cells #[.int .i64 b.1, .int .i64 b.2] T)) W.heap.size (W.heap.size + 1) a b :=
  ⟨by go_simp, by go_simp, by go_simp, by go_simp, h.trans ((b2 _ _ _).mono h.size)⟩
theorem QA.two {w W : World} {a b : Int × Int} {T : TypeId} (h : Below w.heap.size w W) : QA w ((W.alloc (.cells #[.int .i64 b.1, .int .i64 b.2] T)).alloc (.cells #[.int .i64 a.1, .int .i64 a.2] T)) (W.heap.size + 1) W.heap.size a b :=
  ⟨by go_simp, by go_simp, by go_simp, by go_simp, h.trans ((b2 _ _ _).mono h.size)⟩

theorem pl_pt {w W : World} {p : Option Addr} {L : List (Int × Int)} (h : ∀ i (h : i < L.length), ∃ b off, p = some ⟨b, off, none⟩ ∧ b < w.heap.size ∧ w.cell? ⟨b, off + i * 2, none⟩ = some (.int .i64 L[i].1) ∧ w.cell? ⟨b, off + i * 2 + 1, none⟩ = some (.int .i64 L[i].2)) (h0 : 0 < L.length) (hb : Below w.heap.size w W) :
    ∃ b off, p = some ⟨b, off, none⟩ ∧ ∀ i, i < L.length → W.cell? ⟨b, off + i * 2, none⟩ = some (.int .i64 (ptA L i).1) ∧ W.cell? ⟨b, off + i * 2 + 1, none⟩ = some (.int .i64 (ptA L i).2) := by
  obtain ⟨b, off, rfl, _, _, _⟩ := h 0 h0
  refine ⟨b, off, rfl, fun i hi => ?_⟩
  obtain ⟨b', off', e, _, c0, c1⟩ := h i hi
  obtain ⟨rfl, rfl⟩ : b' = b ∧ off' = off := by injection e with e; injection e with e1 e2; exact ⟨e1.symm, e2.symm⟩
  rw [ptA_at hi]
  exact ⟨cell_later hb c0, cell_later hb c1⟩
end Go.Proofs.Ytkibjbbhiclkmaa
