/- Walks of the quotients: Floor, Round, Shift, and the document's own. -/
import Derived.Test.YtmhmccicnebhaaaLeaf
import Derived.Test.YtmhmccicnebhaaaPlain
import Derived.ScopeJumps
namespace Go.Proofs.Ytmhmccicnebhaaa
open Go.RowKit

/-- n and d may be told. -/
def fok (n d : Int) : Bool := decide (1 ≤ d) && decide (d ≤ 1152921504606846976) && decide (-1152921504606846976 ≤ n) && decide (n ≤ 1152921504606846976)
theorem fok_yes {n d : Int} (h : fok n d = true) : 1 ≤ d ∧ d ≤ 1152921504606846976 ∧ -1152921504606846976 ≤ n ∧ n ≤ 1152921504606846976 := by
  simp [fok] at h; omega
theorem fok_no {n d : Int} (h : fok n d = false) : ¬ (1 ≤ d ∧ d ≤ 1152921504606846976 ∧ -1152921504606846976 ≤ n ∧ n ≤ 1152921504606846976) := by
  intro h'; have : fok n d = true := by simp [fok]; omega
  rw [this] at h; cases h

/-- A scope in which the run jumps once, ahead, with a frame and a world that are known. -/
theorem wp_scope_once {P : Program} {a : Act} {w : World} {Q : Exit → Act → World → Prop} {c rest : Code} (l : Nat) (A : Act) (W : World) (hf : findLabel c l = some rest)
    (first : c.wp P (Exit.jump l (fun a' w' => A = a' ∧ W = w') Q) a w) (pass : rest.wp P (Exit.jump l (fun _ _ => False) Q) A W) : (Code.scope c).wp P Q a w := by
  refine wp_scope_jumps l (fun a' w' => A = a' ∧ W = w') (fun _ _ => 0) hf first ?_
  rintro a' w' ⟨rfl, rfl⟩
  refine Code.wp_mono ?_ pass
  intro e a w h
  cases e <;> first | exact h | exact h.2.elim

set_option maxHeartbeats 400000 in
theorem floor_no (n d : Int) (w : World) (h : ¬ (1 ≤ d ∧ d ≤ 1152921504606846976 ∧ -1152921504606846976 ≤ n ∧ n ≤ 1152921504606846976)) :
    Calls Try.prog 92 #[.int .i64 n, .int .i64 d] w fun e w' => e = .returned (.tuple #[.int .i64 0, .bool false]) ∧ w = w' := by
  go_enter Try.func92, Try.ntmps92
  go_wp2
  go_step3
  go_wp2
  all_goals
    try rw [Exit.noGoto_ret]
    go_ret2
    exact ⟨rfl, rfl⟩

set_option maxHeartbeats 400000 in
theorem floor_yes (n d : Int) (w : World) (h1 : 1 ≤ d) (h2 : d ≤ 1152921504606846976) (h3 : -1152921504606846976 ≤ n) (h4 : n ≤ 1152921504606846976) :
    Calls Try.prog 92 #[.int .i64 n, .int .i64 d] w fun e w' => e = .returned (.tuple #[.int .i64 (n / d), .bool true]) ∧ w = w' := by
  obtain ⟨hb1, hb2⟩ := ediv_bounds n d h1 h3 h4
  by_cases hr : 0 ≤ n.tmod d
  · have he := tdiv_hi n d h1 hr
    go_enter Try.func92, Try.ntmps92
    go_wp2
    apply wp_scope_once (l := 0) (hf := rfl)
    case first =>
      go_wp2
      go_step3
      exact ⟨rfl, rfl, rfl⟩
    case pass =>
      go_wp2
      simp only [Exit.jump]
      go_ret2
      exact ⟨rfl, rfl⟩
  · have he := tdiv_lo n d h1 hr
    have hf : decide (0 ≤ n.tmod d) = false := by simpa using hr
    go_enter Try.func92, Try.ntmps92
    go_wp2
    go_step3
    go_wp2
    go_step3
    go_wp2
    try rw [Exit.noGoto_ret]
    go_ret2
    exact ⟨rfl, rfl⟩

theorem floor_any (n d : Int) (w : World) :
    Calls Try.prog 92 #[.int .i64 n, .int .i64 d] w fun e w' => e = .returned (.tuple #[.int .i64 (if fok n d then n / d else 0), .bool (fok n d)]) ∧ w = w' := by
  cases h : fok n d
  · exact floor_no n d w (fok_no h)
  · obtain ⟨h1, h2, h3, h4⟩ := fok_yes h
    exact floor_yes n d w h1 h2 h3 h4

set_option maxHeartbeats 400000 in
theorem rfloor_yes (n d : Int) (w : World) (h1 : 1 ≤ d) (h2 : d ≤ 1152921504606846976) (h3 : -1152921504606846976 ≤ n) (h4 : n ≤ 1152921504606846976) :
    Calls Try.prog 97 #[.int .i64 n, .int .i64 d] w fun e w' => e = .returned (.int .i64 (n / d)) ∧ w = w' := by
  obtain ⟨hb1, hb2⟩ := ediv_bounds n d h1 h3 h4
  obtain ⟨hc1, hc2⟩ := emod_bounds n d h1
  have ho := floor_own n d h1
  by_cases hr : 0 ≤ n.tmod d
  · have he := tmod_hi n d h1 hr
    rw [he] at hr
    go_enter Try.func97, Try.ntmps97
    go_wp2
    go_ret
    exact ⟨ret_int (by simp), rfl⟩
  · have he := tmod_lo n d h1 hr
    have hlt : n % d - d < 0 := by omega
    clear hr
    go_enter Try.func97, Try.ntmps97
    go_wp2
    go_ret
    exact ⟨ret_int (by simp), rfl⟩

set_option maxHeartbeats 400000 in
theorem round_no (n d : Int) (w : World) (h : fok n d = false) :
    Calls Try.prog 58 #[.int .i64 n, .int .i64 d] w fun e w' => e = .returned (.tuple #[.int .i64 0, .bool false]) ∧ w = w' := by
  have h' := fok_no h
  clear h
  go_enter Try.func58, Try.ntmps58
  go_wp2_with (go_at_call 92; refine (floor_no _ _ _ h').mono ?_; rintro e w' ⟨rfl, rfl⟩)
  go_ret2
  exact ⟨rfl, rfl⟩

set_option maxHeartbeats 400000 in
theorem round_yes (n d : Int) (w : World) (h1 : 1 ≤ d) (h2 : d ≤ 1152921504606846976) (h3 : -1152921504606846976 ≤ n) (h4 : n ≤ 1152921504606846976) :
    Calls Try.prog 58 #[.int .i64 n, .int .i64 d] w fun e w' => e = .returned (.tuple #[.int .i64 (rdP n d), .bool true]) ∧ w = w' := by
  obtain ⟨hb1, hb2⟩ := ediv_bounds n d h1 h3 h4
  obtain ⟨hc1, hc2⟩ := emod_bounds n d h1
  have ho := over_own n d
  have hs : n - (n - n % d) = n % d := by omega
  unfold rdP
  by_cases hd : d ≤ 2 * (n % d)
  all_goals
    go_enter Try.func58, Try.ntmps58
    go_wp2_with (go_at_call 92; refine (floor_yes _ _ _ h1 h2 h3 h4).mono ?_; rintro e w' ⟨rfl, rfl⟩)
    go_ret2
    exact ⟨rfl, rfl⟩

def rdV (n d : Int) : Int := if fok n d then rdP n d else 0
theorem round_any (n d : Int) (w : World) :
    Calls Try.prog 58 #[.int .i64 n, .int .i64 d] w fun e w' => e = .returned (.tuple #[.int .i64 (rdV n d), .bool (fok n d)]) ∧ w = w' := by
  unfold rdV
  cases h : fok n d
  · exact round_no n d w h
  · obtain ⟨h1, h2, h3, h4⟩ := fok_yes h
    exact round_yes n d w h1 h2 h3 h4

set_option maxHeartbeats 400000 in
theorem rround_yes (n d : Int) (w : World) (h1 : 1 ≤ d) (h2 : d ≤ 1152921504606846976) (h3 : -1152921504606846976 ≤ n) (h4 : n ≤ 1152921504606846976) :
    Calls Try.prog 61 #[.int .i64 n, .int .i64 d] w fun e w' => e = .returned (.int .i64 (rdP n d)) ∧ w = w' := by
  obtain ⟨hb1, hb2⟩ := ediv_bounds n d h1 h3 h4
  obtain ⟨hc1, hc2⟩ := emod_bounds n d h1
  have ho := over_own n d
  have hs : n - (n - n % d) = n % d := by omega
  unfold rdP
  by_cases hd : d ≤ 2 * (n % d)
  · by_cases hq : n % d = d - n % d
    · have hq' : ¬ d - n % d < n % d := by omega
      have hq2 : (n % d == d - n % d) = true := by simpa using hq
      clear hq
      go_enter Try.func61, Try.ntmps61
      go_wp2_with (go_at_call 97; refine (rfloor_yes _ _ _ h1 h2 h3 h4).mono ?_; rintro e w' ⟨rfl, rfl⟩)
      go_ret
      exact ⟨rfl, rfl⟩
    · have hq' : d - n % d < n % d := by omega
      clear hq
      go_enter Try.func61, Try.ntmps61
      go_wp2_with (go_at_call 97; refine (rfloor_yes _ _ _ h1 h2 h3 h4).mono ?_; rintro e w' ⟨rfl, rfl⟩)
      go_ret
      exact ⟨rfl, rfl⟩
  · have hq' : ¬ d - n % d < n % d := by omega
    have hq2 : (n % d == d - n % d) = false := by rw [beq_eq_false_iff_ne]; omega
    go_enter Try.func61, Try.ntmps61
    go_wp2_with (go_at_call 97; refine (rfloor_yes _ _ _ h1 h2 h3 h4).mono ?_; rintro e w' ⟨rfl, rfl⟩)
    go_ret
    exact ⟨rfl, rfl⟩

/-- v and s may be told. -/
def sok (v s : Int) : Bool := decide (0 ≤ s) && decide (s ≤ 20) && bnd v
theorem pow_le {k : Nat} (h : k ≤ 20) : (1 : Int) ≤ 2 ^ k ∧ (2 : Int) ^ k ≤ 1048576 := by
  have h1 : (2 : Nat) ^ k ≤ 2 ^ 20 := Nat.pow_le_pow_right (by omega) h
  have h2 : 0 < (2 : Nat) ^ k := Nat.pow_pos (by omega)
  have e : ((2 : Int) ^ k) = ((2 ^ k : Nat) : Int) := by simp
  rw [e]
  have h3 : (2 : Nat) ^ 20 = 1048576 := rfl
  rw [h3] at h1
  generalize (2 : Nat) ^ k = m at *
  omega

end Go.Proofs.Ytmhmccicnebhaaa
