/- Plain facts on whole numbers: quotients, doubled areas, who lies where. Nothing of the program. -/
namespace Go.Proofs.Ytenfaejdnphngaa

theorem tdiv_hi (n d : Int) (hd : 1 ≤ d) (h : 0 ≤ n.tmod d) : n.tdiv d = n / d := by
  rw [Int.tdiv_eq_ediv]
  rw [Int.tmod_eq_emod] at h
  split
  · omega
  · rename_i hc
    rw [if_neg hc] at h
    have := Int.emod_lt_of_pos n (show 0 < d by omega)
    omega
theorem tdiv_lo (n d : Int) (hd : 1 ≤ d) (h : ¬ 0 ≤ n.tmod d) : n.tdiv d = n / d + 1 := by
  rw [Int.tdiv_eq_ediv]
  rw [Int.tmod_eq_emod] at h
  have := Int.emod_nonneg n (show d ≠ 0 by omega)
  split
  · rename_i hc
    rw [if_pos hc] at h
    omega
  · rw [Int.sign_eq_one_of_pos (by omega)]
theorem tmod_hi (n d : Int) (hd : 1 ≤ d) (h : 0 ≤ n.tmod d) : n.tmod d = n % d := by
  rw [Int.tmod_eq_emod] at h ⊢
  split
  · omega
  · rename_i hc
    rw [if_neg hc] at h
    have := Int.emod_lt_of_pos n (show 0 < d by omega)
    omega
theorem tmod_lo (n d : Int) (hd : 1 ≤ d) (h : ¬ 0 ≤ n.tmod d) : n.tmod d = n % d - d := by
  rw [Int.tmod_eq_emod] at h ⊢
  have := Int.emod_nonneg n (show d ≠ 0 by omega)
  split
  · rename_i hc
    rw [if_pos hc] at h
    omega
  · omega
theorem ediv_bounds (n d : Int) (hd : 1 ≤ d) (h3 : -1152921504606846976 ≤ n) (h4 : n ≤ 1152921504606846976) : -1152921504606846976 ≤ n / d ∧ n / d ≤ 1152921504606846976 := by
  have h : d * (n / d) + n % d = n := Int.mul_ediv_add_emod n d
  have := Int.emod_nonneg n (show d ≠ 0 by omega)
  have := Int.emod_lt_of_pos n (show 0 < d by omega)
  constructor
  · exact Int.le_ediv_of_mul_le (by omega) (by have : 1152921504606846976 * 1 ≤ 1152921504606846976 * d := Int.mul_le_mul_of_nonneg_left hd (by omega); omega)
  · refine Int.le_trans (Int.ediv_le_ediv (by omega) h4) (Int.ediv_le_self _ (by omega))
theorem floor_own (n d : Int) (hd : 1 ≤ d) : (n - n % d).tdiv d = n / d := by
  have h : d * (n / d) + n % d = n := Int.mul_ediv_add_emod n d
  have e : n - n % d = d * (n / d) := by omega
  rw [e]
  exact Int.mul_tdiv_cancel_left _ (by omega)
theorem over_own (n d : Int) : n / d * d = n - n % d := by
  have h : d * (n / d) + n % d = n := Int.mul_ediv_add_emod n d
  rw [Int.mul_comm]; omega
theorem emod_bounds (n d : Int) (hd : 1 ≤ d) : 0 ≤ n % d ∧ n % d < d :=
  ⟨Int.emod_nonneg n (by omega), Int.emod_lt_of_pos n (by omega)⟩

/-- A quotient rounded. -/
def rdP (n d : Int) : Int := if d ≤ 2 * (n % d) then n / d + 1 else n / d
end Go.Proofs.Ytenfaejdnphngaa
