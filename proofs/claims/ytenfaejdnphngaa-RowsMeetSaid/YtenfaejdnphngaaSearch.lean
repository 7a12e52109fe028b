/- sort.Search for any closure. -/
import Derived.Test.YtenfaejdnphngaaFind
namespace Go.Proofs.Ytenfaejdnphngaa
open Go.RowKit Go.Sort

def SeP (p : Nat → Bool) (n a b : Nat) : Prop := (∀ k, k < a → p k = false) ∧ (∀ k, k < n → b ≤ k → p k = true)
end Go.Proofs.Ytenfaejdnphngaa
