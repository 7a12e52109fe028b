/- Stores into new blocks, one behind the other: what holds behind each. -/
import Derived.Test.YtmhmccicnebhaaaInv
namespace Go.Proofs.Ytmhmccicnebhaaa
open Go.RowKit

theorem gen_any {P : Program} {md : Region.Mode} {ops : Array Oper} {Q : Exit → Act → World → Prop} {fuel : Nat} {listed : Array Bool} {a : Act} {w0 : World} (F : World → Prop) (h0 : F w0) (h : ∀ W, F W → wpAny P md ops Q fuel listed a W) : wpAny P md ops Q fuel listed a w0 := h w0 h0
/-- A point in its block. -/
def Cl (W : World) (k : Nat) (x y : Int) : Prop := W.cell? ⟨k, 0, none⟩ = some (.int .i64 x) ∧ W.cell? ⟨k, 1, none⟩ = some (.int .i64 y)
theorem Cl.put {W : World} {k j : Nat} {x y : Int} (u v : Int) (h : Cl W k x y) (hj : k ≠ j) : Cl (Put W j u v) k x y := ⟨(Put.other _ _ _ _ hj).trans h.1, (Put.other _ _ _ _ hj).trans h.2⟩
theorem Cl.own {W : World} {B k : Nat} (x y : Int) (h : Fr W B true k) : Cl (Put W k x y) k x y := Put.own x y h

theorem OfS3.put {w : World} {ax ay bx b_y cx cy : Int} {W : World} {k : Nat} (u v : Int) (h : OfS3 w ax ay bx b_y cx cy W) (hk : w.heap.size + 3 ≤ k) : OfS3 w ax ay bx b_y cx cy (Put W k u v) :=
  ⟨(Put.other _ _ _ _ (by omega)).trans h.1, (Put.other _ _ _ _ (by omega)).trans h.2.1, (Put.other _ _ _ _ (by omega)).trans h.2.2.1, (Put.other _ _ _ _ (by omega)).trans h.2.2.2.1, (Put.other _ _ _ _ (by omega)).trans h.2.2.2.2.1, (Put.other _ _ _ _ (by omega)).trans h.2.2.2.2.2.1, Put.below _ _ h.2.2.2.2.2.2 (by omega)⟩
theorem OfT3.of' {w : World} {k0 k1 k2 : Nat} {ax ay bx b_y cx cy : Int} {W : World} (h : OfS3 w ax ay bx b_y cx cy W) (c0 : Cl W k0 ax ay) (c1 : Cl W k1 bx b_y) (c2 : Cl W k2 cx cy) : OfT3 w k0 k1 k2 ax ay bx b_y cx cy W :=
  ⟨h.1, h.2.1, h.2.2.1, h.2.2.2.1, h.2.2.2.2.1, h.2.2.2.2.2.1, c0.1, c0.2, c1.1, c1.2, c2.1, c2.2, h.2.2.2.2.2.2⟩
theorem OfS4.put {w : World} {ax ay bx b_y cx cy px py : Int} {W : World} {k : Nat} (u v : Int) (h : OfS4 w ax ay bx b_y cx cy px py W) (hk : w.heap.size + 4 ≤ k) : OfS4 w ax ay bx b_y cx cy px py (Put W k u v) :=
  ⟨(Put.other _ _ _ _ (by omega)).trans h.1, (Put.other _ _ _ _ (by omega)).trans h.2.1, (Put.other _ _ _ _ (by omega)).trans h.2.2.1, (Put.other _ _ _ _ (by omega)).trans h.2.2.2.1, (Put.other _ _ _ _ (by omega)).trans h.2.2.2.2.1, (Put.other _ _ _ _ (by omega)).trans h.2.2.2.2.2.1, (Put.other _ _ _ _ (by omega)).trans h.2.2.2.2.2.2.1, (Put.other _ _ _ _ (by omega)).trans h.2.2.2.2.2.2.2.1, Put.below _ _ h.2.2.2.2.2.2.2.2 (by omega)⟩
theorem OfT4.of' {w : World} {k0 k1 k2 k3 : Nat} {ax ay bx b_y cx cy px py : Int} {W : World} (h : OfS4 w ax ay bx b_y cx cy px py W) (c0 : Cl W k0 ax ay) (c1 : Cl W k1 bx b_y) (c2 : Cl W k2 cx cy) (c3 : Cl W k3 px py) : OfT4 w k0 k1 k2 k3 ax ay bx b_y cx cy px py W :=
  ⟨h.1, h.2.1, h.2.2.1, h.2.2.2.1, h.2.2.2.2.1, h.2.2.2.2.2.1, h.2.2.2.2.2.2.1, h.2.2.2.2.2.2.2.1, c0.1, c0.2, c1.1, c1.2, c2.1, c2.2, c3.1, c3.2, h.2.2.2.2.2.2.2.2⟩
end Go.Proofs.Ytmhmccicnebhaaa
