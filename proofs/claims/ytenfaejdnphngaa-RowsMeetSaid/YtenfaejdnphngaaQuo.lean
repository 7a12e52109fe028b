/- Walks of the quotients: Floor, Round, Shift, and the document's own. -/
import Derived.Test.YtenfaejdnphngaaLeaf
import Derived.Test.YtenfaejdnphngaaPlain
import Derived.ScopeJumps
namespace Go.Proofs.Ytenfaejdnphngaa
open Go.RowKit

/-- n and d may be told. -/
def fok (n d : Int) : Bool := decide (1 ≤ d) && decide (d ≤ 1152921504606846976) && decide (-1152921504606846976 ≤ n) && decide (n ≤ 1152921504606846976)
theorem fok_yes {n d : Int} (h : fok n d = true) : 1 ≤ d ∧ d ≤ 1152921504606846976 ∧ -1152921504606846976 ≤ n ∧ n ≤ 1152921504606846976 := by
  simp [fok] at h; omega
theorem fok_no {n d : Int} (h : fok n d = false) : ¬ (1 ≤ d ∧ d ≤ 1152921504606846976 ∧ -1152921504606846976 ≤ n ∧ n ≤ 1152921504606846976) := by
  intro h'; have : fok n d = true := by simp [fok]; omega
  rw [this] at h; cases h

/-- A scope in which the run jumps once, ahead, with a frame and a world that are known. -/
theorem wp_scope_once {P : Program} {a : Act} {w : World} {Q : Exit → Act → World → Prop} {c rest : Code} (l : Nat) (A : Act) (W : World) (hf : findLabel c l = some rest)
    (first : c.wp P (Exit.jump l (fun a' w' => A = a' ∧ W = w') Q) a w) (pass : rest.wp P (Exit.jump l (fun _ _ => False) Q) A W) : (Code.scope c).wp P Q a w := by
  refine wp_scope_jumps l (fun a' w' => A = a' ∧ W = w') (fun _ _ => 0) hf first ?_
  rintro a' w' ⟨rfl, rfl⟩
  refine Code.wp_mono ?_ pass
  intro e a w h
  cases e <;> first | exact h | exact h.2.elim

def rdV (n d : Int) : Int := if fok n d then rdP n d else 0
/-- v and s may be told. -/
def sok (v s : Int) : Bool := decide (0 ≤ s) && decide (s ≤ 20) && bnd v
theorem pow_le {k : Nat} (h : k ≤ 20) : (1 : Int) ≤ 2 ^ k ∧ (2 : Int) ^ k ≤ 1048576 := by
  have h1 : (2 : Nat) ^ k ≤ 2 ^ 20 := Nat.pow_le_pow_right (by omega) h
  have h2 : 0 < (2 : Nat) ^ k := Nat.pow_pos (by omega)
  have e : ((2 : Int) ^ k) = ((2 ^ k : Nat) : Int) := by simp
  rw [e]
  have h3 : (2 : Nat) ^ 20 = 1048576 := rfl
  rw [h3] at h1
  generalize (2 : Nat) ^ k = m at *
  omega

end Go.Proofs.Ytenfaejdnphngaa
