/- Walks of Right and All: whether all points of a slice may be. -/
import Derived.Test.YtenfaejdnphngaaLeaf
namespace Go.Proofs.Ytenfaejdnphngaa
open Go.RowKit

/-- May all of these points be? -/
def pall (n : Nat) (f g : Nat → Int) : Bool := (List.range n).all fun i => bnd (f i) && bnd (g i)
theorem pall_zero (f g : Nat → Int) : pall 0 f g = true := rfl
theorem pall_succ (n : Nat) (f g : Nat → Int) : pall (n + 1) f g = (pall n f g && (bnd (f n) && bnd (g n))) := by
  simp [pall, List.range_succ]
theorem pall_no (n : Nat) (f g : Nat → Int) (k : Nat) (hk : k < n) (h : (bnd (f k) && bnd (g k)) = false) : pall n f g = false := by
  unfold pall
  rw [List.all_eq_false]
  exact ⟨k, by simpa using hk, by simpa using h⟩

set_option maxHeartbeats 400000 in
theorem right_nil (w : World) : Calls Try.prog 46 #[.slice none 0 0] w fun e w' => e = .returned (.bool true) ∧ w = w' := by
  go_enter Try.func46, Try.ntmps46
  go_wp2
  go_loop [7] (fun i => i = .int .i64 0) (fun _ => 0)
  case atStart => rfl
  case round =>
    subst hrel
    go_wp2
    go_ret
    exact ⟨rfl, rfl⟩

set_option maxHeartbeats 400000 in
theorem right_any (b off n cap : Nat) (f g : Nat → Int) (w : World) (hn : n ≤ 9223372036854775807) (hb : b < w.heap.size)
    (hf : ∀ i, i < n → w.cell? ⟨b, off + i * 2, none⟩ = some (.int .i64 (f i))) (hg : ∀ i, i < n → w.cell? ⟨b, off + i * 2 + 1, none⟩ = some (.int .i64 (g i))) :
    Calls Try.prog 46 #[.slice (some ⟨b, off, none⟩) n cap] w fun e w' => e = .returned (.bool (pall n f g)) ∧ Below w.heap.size w w' := by
  have Hf := Lib.hid hf
  have Hg := Lib.hid hg
  clear hf hg
  go_enter Try.func46, Try.ntmps46
  go_wp2
  go_loopw [7] (fun i wr => ∃ k : Nat, k ≤ n ∧ i = .int .i64 k ∧ pall k f g = true ∧ Below w.heap.size w wr) (fun i _ => n - (intOf i).toNat)
  case atStart => exact ⟨0, by omega, rfl, rfl, Below.refl _ _⟩
  case round =>
    obtain ⟨k, hk, rfl, hp, hbe⟩ := hrel
    have Hp := Lib.hid hp
    clear hp
    by_cases hlt : k < n
    · have c1 := (hbe.cell (p := ⟨b, off + k * 2, none⟩) hb).trans (Hf.out k hlt)
      have c2 := (hbe.cell (p := ⟨b, off + k * 2 + 1, none⟩) hb).trans (Hg.out k hlt)
      by_cases h1 : bnd (f k) = true
      · by_cases h2 : bnd (g k) = true
        · go_wp2_with (go_at_call 58; refine (bounded_any _ _).mono ?_; rintro e w' ⟨rfl, rfl⟩)
          go_roundw
          case rel => exact ⟨k + 1, by omega, by go_num, by rw [pall_succ, Hp.out, h1, h2]; rfl, hbe.alloc hbe.size _⟩
          case measure => simp [intOf]; omega
        · have h2' : bnd (g k) = false := by simpa using h2
          clear h2
          go_wp2_with (go_at_call 58; refine (bounded_any _ _).mono ?_; rintro e w' ⟨rfl, rfl⟩)
          go_ret
          exact ⟨ret_bool (pall_no n f g k hlt (by rw [h1, h2']; rfl)).symm, hbe.alloc hbe.size _⟩
      · have h1' : bnd (f k) = false := by simpa using h1
        clear h1
        go_wp2_with (go_at_call 58; refine (bounded_any _ _).mono ?_; rintro e w' ⟨rfl, rfl⟩)
        go_ret
        exact ⟨ret_bool (pall_no n f g k hlt (by rw [h1']; rfl)).symm, hbe.alloc hbe.size _⟩
    · go_wp2
      go_ret
      obtain rfl : k = n := by omega
      exact ⟨ret_bool Hp.out.symm, hbe⟩

set_option maxHeartbeats 400000 in
theorem all_nil (w : World) : Calls Try.prog 12 #[.slice none 0 0] w fun e w' => e = .returned (.bool true) ∧ w = w' := by
  go_enter Try.func12, Try.ntmps12
  go_wp2
  go_loop [3] (fun i => i = .int .i64 0) (fun _ => 0)
  case atStart => rfl
  case round =>
    subst hrel
    go_wp2
    go_ret
    exact ⟨rfl, rfl⟩

set_option maxHeartbeats 400000 in
theorem all_any (b off n cap : Nat) (f g : Nat → Int) (w : World) (hn : n ≤ 9223372036854775807) (hb : b < w.heap.size)
    (hf : ∀ i, i < n → w.cell? ⟨b, off + i * 2, none⟩ = some (.int .i64 (f i))) (hg : ∀ i, i < n → w.cell? ⟨b, off + i * 2 + 1, none⟩ = some (.int .i64 (g i))) :
    Calls Try.prog 12 #[.slice (some ⟨b, off, none⟩) n cap] w fun e w' => e = .returned (.bool (pall n f g)) ∧ Below w.heap.size w w' := by
  have Hf := Lib.hid hf
  have Hg := Lib.hid hg
  clear hf hg
  go_enter Try.func12, Try.ntmps12
  go_wp2
  go_loopw [3] (fun i wr => ∃ k : Nat, k ≤ n ∧ i = .int .i64 k ∧ pall k f g = true ∧ Below w.heap.size w wr) (fun i _ => n - (intOf i).toNat)
  case atStart => exact ⟨0, by omega, rfl, rfl, Below.refl _ _⟩
  case round =>
    obtain ⟨k, hk, rfl, hp, hbe⟩ := hrel
    have Hp := Lib.hid hp
    clear hp
    by_cases hlt : k < n
    · have c1 := (hbe.cell (p := ⟨b, off + k * 2, none⟩) hb).trans (Hf.out k hlt)
      have c2 := (hbe.cell (p := ⟨b, off + k * 2 + 1, none⟩) hb).trans (Hg.out k hlt)
      cases h1 : (bnd (f k) && bnd (g k))
      · have H1 := Lib.hid h1
        clear h1
        go_wp2_with (go_at_call 43; refine (may_any _ _ _).mono ?_; rintro e w1 ⟨rfl, hb1⟩; rw [H1.out]; have hB := hbe.trans (hb1.mono hbe.size))
        go_ret
        exact ⟨ret_bool (pall_no n f g k hlt H1.out).symm, by assumption⟩
      · have H1 := Lib.hid h1
        clear h1
        go_wp2_with (go_at_call 43; refine (may_any _ _ _).mono ?_; rintro e w1 ⟨rfl, hb1⟩; rw [H1.out]; have hB := hbe.trans (hb1.mono hbe.size))
        go_roundw
        case rel => exact ⟨k + 1, by omega, by go_num, by rw [pall_succ, Hp.out, H1.out]; rfl, by assumption⟩
        case measure => simp [intOf]; omega
    · go_wp2
      go_ret
      obtain rfl : k = n := by omega
      exact ⟨ret_bool Hp.out.symm, hbe⟩
end Go.Proofs.Ytenfaejdnphngaa
