/- slices.BinarySearch at numbers. -/
import Derived.Test.YtcbgknlklpandaaMrg
namespace Go.Proofs.Ytcbgknlklpandaa
open Go.RowKit Go.Sort

theorem nan_cmp (x : Int) (w : World) : Calls Try.prog 143 #[.int .i64 x] w fun e w' => e = .returned (.bool false) ∧ Below w.heap.size w w' := by
  go_enter Try.func143, Try.ntmps143
  go_wp2_with fail
  go_ret
  exact ⟨by simp, Below.refl _ _⟩
def BsP (L : List Int) (x : Int) (a b : Nat) : Prop := (∀ k (h : k < L.length), k < a → L[k] < x) ∧ (∀ k (h : k < L.length), b ≤ k → ¬ L[k] < x)
theorem le_at {L : List Int} (hS : L.Pairwise (· ≤ ·)) {k m : Nat} (hk : k < L.length) (hm : m < L.length) (h : k ≤ m) : L[k] ≤ L[m] := by
  rcases Nat.lt_or_ge k m with h1 | h1
  · exact List.pairwise_iff_getElem.1 hS k m hk hm h1
  · have : k = m := by omega
    subst this; exact Int.le_refl _
theorem BsP.up {L : List Int} {x : Int} {a b m : Nat} (h : BsP L x a b) (hS : L.Pairwise (· ≤ ·)) (hm : m < L.length) (hlt : L[m] < x) : BsP L x (m + 1) b :=
  ⟨fun k hk h1 => by have := le_at hS hk hm (by omega); omega, h.2⟩
theorem BsP.down {L : List Int} {x : Int} {a b m : Nat} (h : BsP L x a b) (hS : L.Pairwise (· ≤ ·)) (hm : m < L.length) (hlt : ¬ L[m] < x) : BsP L x a m :=
  ⟨h.1, fun k hk h1 => by have := le_at hS hm hk (by omega); omega⟩
theorem below_after {w W W1 : World} (h : Below w.heap.size w W) (hb : Below W.heap.size W W1) : Below w.heap.size w W1 := h.grown (row := none) (grown_below hb) h.size (fun k h => by cases h)
end Go.Proofs.Ytcbgknlklpandaa
