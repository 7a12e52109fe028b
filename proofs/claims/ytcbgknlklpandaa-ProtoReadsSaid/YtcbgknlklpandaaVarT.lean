/- Walks of varint: all numbers of bytes; the document's. -/
import Derived.Test.YtcbgknlklpandaaVarS
import Derived.Test.YtcbgknlklpandaaAppAt
import Derived.Deep.Upon
namespace Go.Proofs.Ytcbgknlklpandaa
open Go.RowKit Go.Sort

theorem KL.of {kd : IntKind} {W W1 : World} {v : Value} {L : List Nat} (h : KL kd W v L) (e : ∀ k, k < W.heap.size → W1.heap[k]? = W.heap[k]?) : KL kd W1 v L := by
  obtain ⟨q, c, e1, hc, hx⟩ := h
  refine ⟨q, c, e1, hc, fun i hi => ?_⟩
  obtain ⟨g, o, e2, hc⟩ := hx i hi
  exact ⟨g, o, e2, (World.cell?_of_block (e g (World.block_lt_of_cell? W _ hc))).trans hc⟩
def RoPost7 (b : List Nat) (w : World) (e : Ending) (w' : World) : Prop := ∃ u, e = .returned (.tuple #[u, .int .i64 ((rowD b).2.1 : Int), .int .i64 ((rowD b).2.2 : Int)]) ∧ w'.ownsRow w.heap.size 36 1 u (rowD b).1.length (kcl .u64 (rowD b).1) ∧ Below w.heap.size w w'
theorem rd_step {b : List Nat} {i : Nat} (hb : ∀ x ∈ b, x < 256) (h : (rd (b.drop i)).2.2 = 0) : 0 < (rd (b.drop i)).2.1 ∧ i + (rd (b.drop i)).2.1 ≤ b.length ∧ (rd (b.drop i)).2.1 ≤ 10 ∧ (rd (b.drop i)).1 < 18446744073709551616 := by
  have hr : rd (b.drop i) = ((rd (b.drop i)).1, (rd (b.drop i)).2.1, 0) := by rw [← h]
  obtain ⟨k1, k2, k3, k4, k5⟩ := rd_ok hr (fun x hx => hb x (List.mem_of_mem_drop hx))
  rw [List.length_drop] at k2
  exact ⟨k1, by omega, k3, k5⟩
theorem own_blkV {W W1 : World} {base size n : Nat} {T : TypeId} {v : Value} {xs : List Value} (h : W.ownsRow base T size v n xs) (e : ∀ k, v.ownBlock = some k → W1.heap[k]? = W.heap[k]?) : W1.ownsRow base T size v n xs := by
  obtain ⟨hl, h⟩ := h
  refine ⟨hl, ?_⟩
  rcases h with h | ⟨g, c, cur, rfl, hg, hh, r⟩
  · exact .inl h
  · exact .inr ⟨g, c, cur, rfl, hg, (e g rfl).trans hh, r⟩
/-- Row's state: the bytes, the place, the row. -/
structure RwS (W0 : World) (bv : Value) (k1 k6 k5 : Nat) (acc : List Nat) (i : Nat) (V : World) : Prop where
  bl : Below W0.heap.size W0 V
  c1 : V.cell? ⟨k1, 0, none⟩ = some bv
  c6 : V.cell? ⟨k6, 0, none⟩ = some (.int .i64 (i : Int))
  f5 : V.frozen? ⟨k5, 0, none⟩ = false
  f6 : V.frozen? ⟨k6, 0, none⟩ = false
  ge : W0.heap.size ≤ k5 ∧ W0.heap.size ≤ k6
  ne : k1 ≠ k5 ∧ k1 ≠ k6 ∧ k5 ≠ k6
  st : ∃ u, V.cell? ⟨k5, 0, none⟩ = some u ∧ V.ownsRow W0.heap.size 36 1 u acc.length (kcl .u64 acc) ∧ u.ownBlock ≠ some k1 ∧ u.ownBlock ≠ some k5 ∧ u.ownBlock ≠ some k6
theorem RwS.keep {W0 V V1 : World} {bv : Value} {k1 k6 k5 i : Nat} {acc : List Nat} (h : RwS W0 bv k1 k6 k5 acc i V) (hb : Below V.heap.size V V1) : RwS W0 bv k1 k6 k5 acc i V1 := by
  obtain ⟨u, c5, o, n⟩ := h.st
  have l5 : k5 < V.heap.size := World.block_lt_of_cell? V _ c5
  have l6 : k6 < V.heap.size := World.block_lt_of_cell? V _ h.c6
  exact ⟨below_after h.bl hb, cell_later hb h.c1, cell_later hb h.c6, (hb.frozen (p := ⟨k5, 0, none⟩) l5).trans h.f5, (hb.frozen (p := ⟨k6, 0, none⟩) l6).trans h.f6, h.ge, h.ne, u, cell_later hb c5, own_keepB hb o, n⟩
/-- Behind the append. -/
theorem RwS.more {W0 V1 wB : World} {bv u v2 : Value} {k1 k6 k5 i n k : Nat} {acc : List Nat} (h : RwS W0 bv k1 k6 k5 acc i V1) (hc : V1.cell? ⟨k5, 0, none⟩ = some u) (hg : V1.grownBy wB u.ownBlock) (ho : wB.ownsRow W0.heap.size 36 1 v2 (acc.length + 1) (kcl .u64 acc ++ [.int .u64 (n : Int)])) (hv : v2.ownBlock = u.ownBlock ∨ v2.ownBlock = some V1.heap.size) :
    (wB.cell? ⟨k5, 0, none⟩ = some u ∧ wB.cell? ⟨k6, 0, none⟩ = some (.int .i64 (i : Int)) ∧ wB.frozen? ⟨k5, 0, none⟩ = false ∧ wB.frozen? ⟨k6, 0, none⟩ = false ∧ (wB.setCell ⟨k5, 0, none⟩ v2).cell? ⟨k6, 0, none⟩ = some (.int .i64 (i : Int)) ∧ (wB.setCell ⟨k5, 0, none⟩ v2).frozen? ⟨k6, 0, none⟩ = false) ∧ RwS W0 bv k1 k6 k5 (acc ++ [n]) k ((wB.setCell ⟨k5, 0, none⟩ v2).setCell ⟨k6, 0, none⟩ (.int .i64 (k : Int))) := by
  obtain ⟨u', c5, o, n1, n5, n6⟩ := h.st
  obtain rfl : u = u' := by rw [c5] at hc; injection hc with e; exact e.symm
  have l1 : k1 < V1.heap.size := World.block_lt_of_cell? V1 _ h.c1
  have l5 : k5 < V1.heap.size := World.block_lt_of_cell? V1 _ c5
  have l6 : k6 < V1.heap.size := World.block_lt_of_cell? V1 _ h.c6
  have e1 := hg.block k1 l1 (fun e => n1 e.symm)
  have e5 := hg.block k5 l5 (fun e => n5 e.symm)
  have e6 := hg.block k6 l6 (fun e => n6 e.symm)
  have hs := h.bl.size
  have d5 := (World.cell?_of_block e5).trans c5
  have d6 := (World.cell?_of_block (a := ⟨k6, 0, none⟩) e6).trans h.c6
  have g6 : (wB.setCell ⟨k5, 0, none⟩ v2).cell? ⟨k6, 0, none⟩ = some (.int .i64 (i : Int)) := (World.cell?_setCell_other _ _ _ _ (by intro e; injection e with e _; exact h.ne.2.2 e)).trans d6
  have b2 : ∀ j, j ≠ k5 → j ≠ k6 → ((wB.setCell ⟨k5, 0, none⟩ v2).setCell ⟨k6, 0, none⟩ (.int .i64 (k : Int))).heap[j]? = wB.heap[j]? := fun j h5 h6 => (Below.heap_setCell _ _ _ j h6).trans (Below.heap_setCell _ _ _ j h5)
  have vk : ∀ j, v2.ownBlock = some j → j ≠ k1 ∧ j ≠ k5 ∧ j ≠ k6 := fun j hj => by
    rcases hv with a | a
    · rw [a] at hj
      exact ⟨fun e => n1 (e ▸ hj), fun e => n5 (e ▸ hj), fun e => n6 (e ▸ hj)⟩
    · rw [a] at hj; injection hj with hj
      exact ⟨by omega, by omega, by omega⟩
  have f5 := (World.frozen?_of_block (a := ⟨k5, 0, none⟩) e5).trans h.f5
  have f6 := (World.frozen?_of_block (a := ⟨k6, 0, none⟩) e6).trans h.f6
  refine ⟨⟨d5, d6, f5, f6, g6, by simpa using f6⟩, (((h.bl.grown hg hs (fun k e => (own_block o e).1)).setCell h.ge.1 _).setCell h.ge.2 _), ?_, ?_, by simpa using f5, by simpa using f6, h.ge, h.ne, v2, ?_, ?_, fun e => (vk _ e).1 rfl, fun e => (vk _ e).2.1 rfl, fun e => (vk _ e).2.2 rfl⟩
  · exact (World.cell?_of_block (b2 k1 h.ne.1 h.ne.2.1)).trans ((World.cell?_of_block (a := ⟨k1, 0, none⟩) e1).trans h.c1)
  · rw [World.cell?_setCell_same _ _ _ g6]
  · rw [World.cell?_setCell_other _ _ _ _ (by intro e; injection e with e _; exact h.ne.2.2 e.symm)]
    exact World.cell?_setCell_same _ _ _ d5
  · rw [kcl_snoc, List.length_append, List.length_singleton]
    exact own_blkV ho (fun j hj => b2 j (vk j hj).2.1 (vk j hj).2.2)
def R1Post (W0 : World) (bv : Value) (k1 k6 k5 : Nat) (b acc : List Nat) (i : Nat) (e : Ending) (w' : World) : Prop := e = .returned (.int .i64 ((rd (b.drop i)).2.2 : Int)) ∧ ((rd (b.drop i)).2.2 = 0 → RwS W0 bv k1 k6 k5 (acc ++ [(rd (b.drop i)).1]) (i + (rd (b.drop i)).2.1) w') ∧ ((rd (b.drop i)).2.2 ≠ 0 → RwS W0 bv k1 k6 k5 acc i w')
theorem own_formV {W : World} {B n : Nat} {T : TypeId} {v : Value} {xs : List Value} (h : W.ownsRow B T 1 v (n + 1) xs) : ∃ g c, v = .slice (some ⟨g, 0, none⟩) (n + 1) c := by
  rcases h.2 with ⟨_, hz⟩ | ⟨g, c, cur, e, _⟩
  · omega
  · exact ⟨g, c, e⟩
end Go.Proofs.Ytcbgknlklpandaa
