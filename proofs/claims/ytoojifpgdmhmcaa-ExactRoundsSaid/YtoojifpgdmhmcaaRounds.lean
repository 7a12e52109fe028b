/- The walk of ExactRounds. -/
import Derived.Test.YtoojifpgdmhmcaaArea
namespace Go.Proofs.Ytoojifpgdmhmcaa
open Go.RowKit

theorem sok_yes {v s : Int} (h : sok v s = true) : 0 ≤ s ∧ s ≤ 20 ∧ bnd v = true := by
  simp only [sok, Bool.and_eq_true, decide_eq_true_eq] at h; exact ⟨h.1.1, h.1.2, h.2⟩

set_option maxRecDepth 100000 in
set_option maxHeartbeats 800000 in
theorem rounds_yy (n d v s : Int) (w : World) (h1 : 1 ≤ d) (h2 : d ≤ 1152921504606846976) (h3 : -1152921504606846976 ≤ n) (h4 : n ≤ 1152921504606846976) (h5 : 0 ≤ s) (h6 : s ≤ 20) (h7 : bnd v = true) :
    Calls Try.prog 6 #[.int .i64 n, .int .i64 d, .int .i64 v, .int .i64 s] w fun e w' => e = .returned (.bool true) ∧ Below w.heap.size w w' := by
  obtain ⟨v1, v2⟩ := bnd_yes h7
  obtain ⟨p1, p2⟩ := pow_le (k := s.toNat) (by omega)
  go_enter Try.func6, Try.ntmps6
  go_wp2_with (first | (go_at_call 26; refine (floor_yes _ _ _ h1 h2 h3 h4).mono ?_; rintro e w' ⟨rfl, rfl⟩) | (go_at_call 27; refine (round_yes _ _ _ h1 h2 h3 h4).mono ?_; rintro e w' ⟨rfl, rfl⟩) | (go_at_call 28; refine (rfloor_yes _ _ _ h1 h2 h3 h4).mono ?_; rintro e w' ⟨rfl, rfl⟩) | (go_at_call 30; refine (shift_yes _ _ _ h5 h6 h7).mono ?_; rintro e w' ⟨rfl, rfl⟩) | (go_at_call 31; refine (power_yes _ _ h5 h6).mono ?_; rintro e w' ⟨rfl, rfl⟩) | (go_at_call 29; refine (rround_yes _ _ _ (by omega) (by omega) (by omega) (by omega)).mono ?_; rintro e w' ⟨rfl, rfl⟩) | (go_at_call 12; refine (known_yes _).mono ?_; rintro e w1 ⟨rfl, hb1⟩))
  all_goals
    go_ret
    first | exact ⟨rfl, by assumption⟩ | exact ⟨ret_bool (by simp; omega), by assumption⟩

set_option maxRecDepth 100000 in
set_option maxHeartbeats 800000 in
theorem rounds_yn (n d v s : Int) (w : World) (h1 : 1 ≤ d) (h2 : d ≤ 1152921504606846976) (h3 : -1152921504606846976 ≤ n) (h4 : n ≤ 1152921504606846976) (hs : ¬ (0 ≤ s ∧ s ≤ 20 ∧ -16777216 ≤ v ∧ v ≤ 16777216)) (Hs : Hid (sok v s = false)) :
    Calls Try.prog 6 #[.int .i64 n, .int .i64 d, .int .i64 v, .int .i64 s] w fun e w' => e = .returned (.bool true) ∧ Below w.heap.size w w' := by
  go_enter Try.func6, Try.ntmps6
  go_wp2_with (first | (go_at_call 26; refine (floor_yes _ _ _ h1 h2 h3 h4).mono ?_; rintro e w' ⟨rfl, rfl⟩) | (go_at_call 27; refine (round_yes _ _ _ h1 h2 h3 h4).mono ?_; rintro e w' ⟨rfl, rfl⟩) | (go_at_call 28; refine (rfloor_yes _ _ _ h1 h2 h3 h4).mono ?_; rintro e w' ⟨rfl, rfl⟩) | (go_at_call 30; refine (shift_no _ _ _ Hs.out).mono ?_; rintro e w' ⟨rfl, rfl⟩) | (go_at_call 29; refine (rround_yes _ _ _ (by omega) (by omega) (by omega) (by omega)).mono ?_; rintro e w' ⟨rfl, rfl⟩) | (go_at_call 12; refine (known_yes _).mono ?_; rintro e w1 ⟨rfl, hb1⟩))
  all_goals
    go_ret
    first | exact ⟨rfl, by assumption⟩ | exact ⟨ret_bool (by simp; omega), by assumption⟩

set_option maxRecDepth 100000 in
set_option maxHeartbeats 800000 in
theorem rounds_ny (n d v s : Int) (w : World) (hn : ¬ (1 ≤ d ∧ d ≤ 1152921504606846976 ∧ -1152921504606846976 ≤ n ∧ n ≤ 1152921504606846976)) (Hn : Hid (fok n d = false)) (h5 : 0 ≤ s) (h6 : s ≤ 20) (h7 : bnd v = true) :
    Calls Try.prog 6 #[.int .i64 n, .int .i64 d, .int .i64 v, .int .i64 s] w fun e w' => e = .returned (.bool true) ∧ Below w.heap.size w w' := by
  obtain ⟨v1, v2⟩ := bnd_yes h7
  obtain ⟨p1, p2⟩ := pow_le (k := s.toNat) (by omega)
  go_enter Try.func6, Try.ntmps6
  go_wp2_with (first | (go_at_call 26; refine (floor_no _ _ _ (fok_no Hn.out)).mono ?_; rintro e w' ⟨rfl, rfl⟩) | (go_at_call 27; refine (round_no _ _ _ Hn.out).mono ?_; rintro e w' ⟨rfl, rfl⟩) | (go_at_call 30; refine (shift_yes _ _ _ h5 h6 h7).mono ?_; rintro e w' ⟨rfl, rfl⟩) | (go_at_call 31; refine (power_yes _ _ h5 h6).mono ?_; rintro e w' ⟨rfl, rfl⟩) | (go_at_call 29; refine (rround_yes _ _ _ (by omega) (by omega) (by omega) (by omega)).mono ?_; rintro e w' ⟨rfl, rfl⟩) | (go_at_call 12; refine (known_yes _).mono ?_; rintro e w1 ⟨rfl, hb1⟩))
  all_goals
    go_ret
    first | exact ⟨rfl, by assumption⟩ | exact ⟨ret_bool (by simp; omega), by assumption⟩

set_option maxRecDepth 100000 in
set_option maxHeartbeats 800000 in
theorem rounds_nn (n d v s : Int) (w : World) (hn : ¬ (1 ≤ d ∧ d ≤ 1152921504606846976 ∧ -1152921504606846976 ≤ n ∧ n ≤ 1152921504606846976)) (Hn : Hid (fok n d = false)) (hs : ¬ (0 ≤ s ∧ s ≤ 20 ∧ -16777216 ≤ v ∧ v ≤ 16777216)) (Hs : Hid (sok v s = false)) :
    Calls Try.prog 6 #[.int .i64 n, .int .i64 d, .int .i64 v, .int .i64 s] w fun e w' => e = .returned (.bool true) ∧ Below w.heap.size w w' := by
  go_enter Try.func6, Try.ntmps6
  go_wp2_with (first | (go_at_call 26; refine (floor_no _ _ _ (fok_no Hn.out)).mono ?_; rintro e w' ⟨rfl, rfl⟩) | (go_at_call 27; refine (round_no _ _ _ Hn.out).mono ?_; rintro e w' ⟨rfl, rfl⟩) | (go_at_call 30; refine (shift_no _ _ _ Hs.out).mono ?_; rintro e w' ⟨rfl, rfl⟩) | (go_at_call 12; refine (known_yes _).mono ?_; rintro e w1 ⟨rfl, hb1⟩))
  all_goals
    go_ret
    first | exact ⟨rfl, by assumption⟩ | exact ⟨ret_bool (by simp; omega), by assumption⟩

theorem rounds_any (n d v s : Int) (w : World) : Calls Try.prog 6 #[.int .i64 n, .int .i64 d, .int .i64 v, .int .i64 s] w fun e w' => e = .returned (.bool true) ∧ Below w.heap.size w w' := by
  cases hn : fok n d
  · cases hs : sok v s
    · exact rounds_nn n d v s w (fok_no hn) (Lib.hid hn) (fun h => by have : sok v s = true := (by simp [sok, bnd]; omega); rw [hs] at this; cases this) (Lib.hid hs)
    · obtain ⟨h5, h6, h7⟩ := sok_yes hs
      exact rounds_ny n d v s w (fok_no hn) (Lib.hid hn) h5 h6 h7
  · obtain ⟨h1, h2, h3, h4⟩ := fok_yes hn
    cases hs : sok v s
    · exact rounds_yn n d v s w h1 h2 h3 h4 (fun h => by have : sok v s = true := (by simp [sok, bnd]; omega); rw [hs] at this; cases this) (Lib.hid hs)
    · obtain ⟨h5, h6, h7⟩ := sok_yes hs
      exact rounds_yy n d v s w h1 h2 h3 h4 h5 h6 h7
end Go.Proofs.Ytoojifpgdmhmcaa
