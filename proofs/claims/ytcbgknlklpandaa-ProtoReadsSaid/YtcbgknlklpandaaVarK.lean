/- Layer 7: the chapter's examples; the law VarintBytes. -/
import Derived.Test.YtcbgknlklpandaaVarU
namespace Go.Proofs.Ytcbgknlklpandaa
open Go.RowKit Go.Sort

theorem kl_lit (kd : IntKind) (W : World) (T : TypeId) (L : List Nat) {cs : Array Value} (hc : cs.toList = kcl kd L) (hl : L.length ≤ 1000) {n : Nat} (hn : n = L.length) : KL kd (W.alloc (.cells cs T)) (.slice (some ⟨W.heap.size, 0, none⟩) n n) L := by
  subst hn
  have hs : cs.size = L.length * 1 := by rw [← Array.length_toList, hc, kcl_len, Nat.mul_one]
  have h := World.ownsRow_lit (base := W.heap.size) (e := T) W cs L.length (Nat.le_refl _) (by unfold maxLen; omega) hs
  rw [hc] at h
  exact kl_own rfl h
end Go.Proofs.Ytcbgknlklpandaa
