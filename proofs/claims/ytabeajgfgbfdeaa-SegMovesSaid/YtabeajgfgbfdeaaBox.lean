/- Walks of Box. -/
import Derived.Test.YtabeajgfgbfdeaaOwn
import Derived.Test.YtabeajgfgbfdeaaArea
import Derived.Deep.DeepCutAuto
import Derived.BigRegion
import Derived.RegionTactic
namespace Go.Proofs.Ytabeajgfgbfdeaa
open Go.RowKit

/-- The slice's cells. -/
def Sl (W : World) (b off n : Nat) (f g : Nat → Int) : Prop :=
  b < W.heap.size ∧ ∀ i, i < n → W.cell? ⟨b, off + i * 2, none⟩ = some (.int .i64 (f i)) ∧ W.cell? ⟨b, off + i * 2 + 1, none⟩ = some (.int .i64 (g i))
theorem Sl.keep {W w1 : World} {b off n : Nat} {f g : Nat → Int} (hw : Below W.heap.size W w1) (h : Sl W b off n f g) : Sl w1 b off n f g :=
  ⟨Nat.lt_of_lt_of_le h.1 hw.size, fun i hi => ⟨cell_later hw (h.2 i hi).1, cell_later hw (h.2 i hi).2⟩⟩
theorem right_sl {b off n cap : Nat} {f g : Nat → Int} {w : World} (hn : n ≤ 9223372036854775807) (h : Sl w b off n f g) :
    Calls Try.prog 21 #[.slice (some ⟨b, off, none⟩) n cap] w fun e w' => e = .returned (.bool (pall n f g)) ∧ Below w.heap.size w w' :=
  right_any b off n cap f g w hn h.1 (fun i hi => (h.2 i hi).1) (fun i hi => (h.2 i hi).2)

/-- Box's two results and its two variables. -/
def BoxS (w W : World) (L H : Nat) (a b c d : Int) : Prop :=
  Ow W w.heap.size w.heap.size 0 0 ∧ Ow W w.heap.size (w.heap.size + 1) 0 0 ∧ Ow W (w.heap.size + 2) L a b ∧ Ow W (w.heap.size + 2) H c d ∧ L ≠ H ∧ Below w.heap.size w W
theorem BoxS.step {w W : World} {L H : Nat} {a b c d : Int} (a' b' c' d' : Int) (o : Obj) (h : BoxS w W L H a b c d) : BoxS w ((Put (Put W L a' b') H c' d').alloc o) L H a' b' c' d' := by
  obtain ⟨r0, r1, hl, hh, hne, hb⟩ := h
  have l1 := hl.1
  have l2 := hh.1
  have e : Below (Put (Put W L a' b') H c' d').heap.size (Put (Put W L a' b') H c' d') ((Put (Put W L a' b') H c' d').alloc o) := b1 _ _
  exact ⟨((r0.other a' b' (by omega)).other c' d' (by omega)).keep e, ((r1.other a' b' (by omega)).other c' d' (by omega)).keep e, ((hl.put a' b').other c' d' hne).keep e, ((hh.other a' b' (Ne.symm hne)).put c' d').keep e, hne,
    (Put.below c' d' (Put.below a' b' hb (by omega)) (by omega)).alloc (by unfold Put; have := hb.size; simp [World.setCell]; omega) _⟩
theorem mn_if (a x : Int) : (if x < a then x else a) = min a x := by split <;> omega
theorem mx_if (a x : Int) : (if a < x then x else a) = max a x := by split <;> omega

end Go.Proofs.Ytabeajgfgbfdeaa
